/-
  Union, Except, Intersect, Distinct and Canonical of the program: which rows they give, and how often.
-/
import Derived.Test.YtihdfomkphbdnaaBComb
set_option linter.unusedVariables false
namespace Go.Proofs.Ytihdfomkphbdnaa
open Go Go.RowKit
/-- f itself, or f for sets. -/
def repF (all : Bool) (f : Nat → Nat → Nat) : Nat → Nat → Nat := if all then f else fun m n => min (f (min m 1) (min n 1)) 1
theorem repF_le {all : Bool} {f : Nat → Nat → Nat} (hf : ∀ m n, f m n ≤ m + n) (m n : Nat) : repF all f m n ≤ m + n := by
  cases all
  · have := hf (min m 1) (min n 1)
    simp only [repF, Bool.false_eq_true, if_false]
    omega
  · exact hf m n
def addF (m n : Nat) : Nat := m + n
def subF (m n : Nat) : Nat := m - n
def minF (m n : Nat) : Nat := min m n
theorem addF_le (m n : Nat) : addF m n ≤ m + n := Nat.le_refl _
theorem subF_le (m n : Nat) : subF m n ≤ m + n := by unfold subF; omega
theorem minF_le (m n : Nat) : minF m n ≤ m + n := by unfold minF; omega
/-- What a bag operation gives. -/
def Gives (w : World) (w' : World) (e : Ending) (f : Nat → Nat → Nat) (A B : List Row) : Prop :=
  ∃ a c R, e = .returned (.slice a R.length c) ∧ Rws w' a R.length R ∧ R.length ≤ c ∧ c ≤ maxLen ∧ CombOf f A B (vss R) ∧ Below w.heap.size w w'
theorem Gives.of {w w' : World} {e : Ending} {f : Nat → Nat → Nat} {A B : List Row} (h : ∃ v R, e = .returned v ∧ RowsOwn w' w.heap.size v R ∧ CombOf f A B (vss R) ∧ Below w.heap.size w w') : Gives w w' e f A B := by
  obtain ⟨v, R, rfl, ho, hc, hb⟩ := h
  obtain ⟨a, c, rfl, h1, h2, h3⟩ := ho.rws
  exact ⟨a, c, R, rfl, h3, h1, h2, hc, hb⟩
set_option maxHeartbeats 1000000 in
theorem plus_says (w : World) : Says w 36 #[] addF := by
  intro W hW m n hm hn
  show Calls Try.prog 36 #[.int .i64 (m : Int), .int .i64 (n : Int)] W _
  go_enter Try.func36, Try.ntmps36
  go_wp2
  all_goals
    go_ret
    refine ⟨ret_int ?_, Cls.of (Below.refl _ _)⟩
    first | (unfold addF; omega) | (unfold addF; simp; done) | (unfold addF; simp; omega) | (unfold addF; rw [wrap64_eq] <;> omega)
set_option maxHeartbeats 1000000 in
theorem plus_set_says (w : World) (b : Nat) (hb : b < w.heap.size) (hc : w.cell? ⟨b, 0, none⟩ = some (.func (.func 36) #[] #[])) : Says w 48 #[.pointer (some ⟨b, 0, none⟩)] (repF false addF) := by
  intro W hW m n hm hn
  have c0 := (hW.cell (p := ⟨b, 0, none⟩) hb).trans hc
  have CS : Hid (Calls Try.prog 36 #[.int .i64 ((min m 1 : Nat) : Int), .int .i64 ((min n 1 : Nat) : Int)] W fun e w' => e = .returned (.int .i64 ((addF (min m 1) (min n 1) : Nat) : Int)) ∧ Cls W w') := Lib.hid (plus_says W W (Below.refl _ _) (min m 1) (min n 1) (by omega) (by omega))
  show Calls Try.prog 48 #[.int .i64 (m : Int), .int .i64 (n : Int), .pointer (some ⟨b, 0, none⟩)] W _
  show Calls Try.prog _ _ W fun e w' => e = .returned (.int .i64 ((min (addF (min m 1) (min n 1)) 1 : Nat) : Int)) ∧ Cls W w'
  have em : ((min m 1 : Nat) : Int) = min (m : Int) 1 := by omega
  have en : ((min n 1 : Nat) : Int) = min (n : Int) 1 := by omega
  have eq : ((min (addF (min m 1) (min n 1)) 1 : Nat) : Int) = min ((addF (min m 1) (min n 1) : Nat) : Int) 1 := by omega
  rw [eq]
  rw [em, en] at CS
  generalize addF (min m 1) (min n 1) = q at *
  clear hc em en eq
  go_enter Try.func48, Try.ntmps48
  go_wp2_with (go_at_call 36; ((with_reducible refine CS.out.mono ?_); rintro e _ ⟨rfl, y, rfl⟩))
  all_goals
    go_ret
    exact ⟨rfl, y, rfl⟩
set_option maxHeartbeats 1000000 in
theorem plus_repeating (all : Bool) (w : World) :
    Calls Try.prog 38 #[.bool all, .func (.func 36) #[] #[]] w fun e w' => ∃ g lb, e = .returned (.func (.func g) #[] lb) ∧ (∀ args w, (callFunc g args).run Try.prog w = .ok (.enter g args) w) ∧ Says w' g lb (repF all addF) ∧ Below w.heap.size w w' := by
  cases all
  · go_enter Try.func38, Try.ntmps38
    go_wp2
    go_ret
    refine ⟨_, _, rfl, enters_of Try.func48 (by kernel_rfl) rfl, plus_set_says _ _ (by simp) (by simp), (Below.refl _ _).alloc (Nat.le_refl _) _⟩
  · go_enter Try.func38, Try.ntmps38
    go_wp2
    go_ret
    refine ⟨_, _, rfl, enters_of Try.func36 (by kernel_rfl) rfl, plus_says _, (Below.refl _ _).alloc (Nat.le_refl _) _⟩
set_option maxHeartbeats 2000000 in
theorem Union_calls (all : Bool) (a : Option Addr) (n c : Nat) (l : List Rw) (a' : Option Addr) (n' c' : Nat) (l' : List Rw) (w : World) (h : Rws w a n l) (h' : Rws w a' n' l') (hn : n ≤ 10000) (hn' : n' ≤ 10000) :
    Calls Try.prog 18 #[.slice a n c, .slice a' n' c', .bool all] w fun e w' => Gives w w' e (repF all addF) (vss l) (vss l') := by
  have C1 := Lib.hid (plus_repeating all w)
  have HH := Lib.hid h
  have HH' := Lib.hid h'
  clear h h'
  go_enter Try.func18, Try.ntmps18
  go_wp2_with (go_at_call 38; ((with_reducible refine C1.out.mono ?_); rintro e w1 ⟨g, lb, rfl, eg, hx⟩; have HX := Lib.hid hx; clear hx; have C2 : Hid (Calls Try.prog 35 #[.slice a n c, .slice a' n' c', .func (.func g) #[] lb] w1 fun e w' => ∃ v R, e = .returned v ∧ RowsOwn w' w1.heap.size v R ∧ CombOf (repF all addF) (vss l) (vss l') (vss R) ∧ Below w1.heap.size w1 w') := Lib.hid (combine_calls g lb (repF all addF) (repF_le addF_le) eg a n c l a' n' c' l' w1 HX.out.1 (HH.out.later HX.out.2) (HH'.out.later HX.out.2) hn hn'); clear eg))
  go_wp2_with (go_at_call 35; ((with_reducible refine C2.out.mono ?_); rintro e w2 ⟨v, R, rfl, hy⟩; have HY := Lib.hid hy; clear hy))
  go_ret
  exact Gives.of ⟨v, R, rfl, HY.out.1.mono HX.out.2.size, HY.out.2.1, HX.out.2.trans (HY.out.2.2.mono HX.out.2.size)⟩
set_option maxHeartbeats 1000000 in
theorem minus_says (w : World) : Says w 40 #[] subF := by
  intro W hW m n hm hn
  show Calls Try.prog 40 #[.int .i64 (m : Int), .int .i64 (n : Int)] W _
  go_enter Try.func40, Try.ntmps40
  go_wp2
  all_goals
    go_ret
    refine ⟨ret_int ?_, Cls.of (Below.refl _ _)⟩
    first | (unfold subF; omega) | (unfold subF; simp; done) | (unfold subF; simp; omega) | (unfold subF; rw [wrap64_eq] <;> omega)
set_option maxHeartbeats 1000000 in
theorem minus_set_says (w : World) (b : Nat) (hb : b < w.heap.size) (hc : w.cell? ⟨b, 0, none⟩ = some (.func (.func 40) #[] #[])) : Says w 48 #[.pointer (some ⟨b, 0, none⟩)] (repF false subF) := by
  intro W hW m n hm hn
  have c0 := (hW.cell (p := ⟨b, 0, none⟩) hb).trans hc
  have CS : Hid (Calls Try.prog 40 #[.int .i64 ((min m 1 : Nat) : Int), .int .i64 ((min n 1 : Nat) : Int)] W fun e w' => e = .returned (.int .i64 ((subF (min m 1) (min n 1) : Nat) : Int)) ∧ Cls W w') := Lib.hid (minus_says W W (Below.refl _ _) (min m 1) (min n 1) (by omega) (by omega))
  show Calls Try.prog 48 #[.int .i64 (m : Int), .int .i64 (n : Int), .pointer (some ⟨b, 0, none⟩)] W _
  show Calls Try.prog _ _ W fun e w' => e = .returned (.int .i64 ((min (subF (min m 1) (min n 1)) 1 : Nat) : Int)) ∧ Cls W w'
  have em : ((min m 1 : Nat) : Int) = min (m : Int) 1 := by omega
  have en : ((min n 1 : Nat) : Int) = min (n : Int) 1 := by omega
  have eq : ((min (subF (min m 1) (min n 1)) 1 : Nat) : Int) = min ((subF (min m 1) (min n 1) : Nat) : Int) 1 := by omega
  rw [eq]
  rw [em, en] at CS
  generalize subF (min m 1) (min n 1) = q at *
  clear hc em en eq
  go_enter Try.func48, Try.ntmps48
  go_wp2_with (go_at_call 40; ((with_reducible refine CS.out.mono ?_); rintro e _ ⟨rfl, y, rfl⟩))
  all_goals
    go_ret
    exact ⟨rfl, y, rfl⟩
set_option maxHeartbeats 1000000 in
theorem minus_repeating (all : Bool) (w : World) :
    Calls Try.prog 38 #[.bool all, .func (.func 40) #[] #[]] w fun e w' => ∃ g lb, e = .returned (.func (.func g) #[] lb) ∧ (∀ args w, (callFunc g args).run Try.prog w = .ok (.enter g args) w) ∧ Says w' g lb (repF all subF) ∧ Below w.heap.size w w' := by
  cases all
  · go_enter Try.func38, Try.ntmps38
    go_wp2
    go_ret
    refine ⟨_, _, rfl, enters_of Try.func48 (by kernel_rfl) rfl, minus_set_says _ _ (by simp) (by simp), (Below.refl _ _).alloc (Nat.le_refl _) _⟩
  · go_enter Try.func38, Try.ntmps38
    go_wp2
    go_ret
    refine ⟨_, _, rfl, enters_of Try.func40 (by kernel_rfl) rfl, minus_says _, (Below.refl _ _).alloc (Nat.le_refl _) _⟩
set_option maxHeartbeats 2000000 in
theorem Except_calls (all : Bool) (a : Option Addr) (n c : Nat) (l : List Rw) (a' : Option Addr) (n' c' : Nat) (l' : List Rw) (w : World) (h : Rws w a n l) (h' : Rws w a' n' l') (hn : n ≤ 10000) (hn' : n' ≤ 10000) :
    Calls Try.prog 20 #[.slice a n c, .slice a' n' c', .bool all] w fun e w' => Gives w w' e (repF all subF) (vss l) (vss l') := by
  have C1 := Lib.hid (minus_repeating all w)
  have HH := Lib.hid h
  have HH' := Lib.hid h'
  clear h h'
  go_enter Try.func20, Try.ntmps20
  go_wp2_with (go_at_call 38; ((with_reducible refine C1.out.mono ?_); rintro e w1 ⟨g, lb, rfl, eg, hx⟩; have HX := Lib.hid hx; clear hx; have C2 : Hid (Calls Try.prog 35 #[.slice a n c, .slice a' n' c', .func (.func g) #[] lb] w1 fun e w' => ∃ v R, e = .returned v ∧ RowsOwn w' w1.heap.size v R ∧ CombOf (repF all subF) (vss l) (vss l') (vss R) ∧ Below w1.heap.size w1 w') := Lib.hid (combine_calls g lb (repF all subF) (repF_le subF_le) eg a n c l a' n' c' l' w1 HX.out.1 (HH.out.later HX.out.2) (HH'.out.later HX.out.2) hn hn'); clear eg))
  go_wp2_with (go_at_call 35; ((with_reducible refine C2.out.mono ?_); rintro e w2 ⟨v, R, rfl, hy⟩; have HY := Lib.hid hy; clear hy))
  go_ret
  exact Gives.of ⟨v, R, rfl, HY.out.1.mono HX.out.2.size, HY.out.2.1, HX.out.2.trans (HY.out.2.2.mono HX.out.2.size)⟩
set_option maxHeartbeats 1000000 in
theorem least_says (w : World) : Says w 42 #[] minF := by
  intro W hW m n hm hn
  show Calls Try.prog 42 #[.int .i64 (m : Int), .int .i64 (n : Int)] W _
  go_enter Try.func42, Try.ntmps42
  go_wp2
  all_goals
    go_ret
    refine ⟨ret_int ?_, Cls.of (Below.refl _ _)⟩
    first | (unfold minF; omega) | (unfold minF; simp; done) | (unfold minF; simp; omega) | (unfold minF; rw [wrap64_eq] <;> omega)
set_option maxHeartbeats 1000000 in
theorem least_set_says (w : World) (b : Nat) (hb : b < w.heap.size) (hc : w.cell? ⟨b, 0, none⟩ = some (.func (.func 42) #[] #[])) : Says w 48 #[.pointer (some ⟨b, 0, none⟩)] (repF false minF) := by
  intro W hW m n hm hn
  have c0 := (hW.cell (p := ⟨b, 0, none⟩) hb).trans hc
  have CS : Hid (Calls Try.prog 42 #[.int .i64 ((min m 1 : Nat) : Int), .int .i64 ((min n 1 : Nat) : Int)] W fun e w' => e = .returned (.int .i64 ((minF (min m 1) (min n 1) : Nat) : Int)) ∧ Cls W w') := Lib.hid (least_says W W (Below.refl _ _) (min m 1) (min n 1) (by omega) (by omega))
  show Calls Try.prog 48 #[.int .i64 (m : Int), .int .i64 (n : Int), .pointer (some ⟨b, 0, none⟩)] W _
  show Calls Try.prog _ _ W fun e w' => e = .returned (.int .i64 ((min (minF (min m 1) (min n 1)) 1 : Nat) : Int)) ∧ Cls W w'
  have em : ((min m 1 : Nat) : Int) = min (m : Int) 1 := by omega
  have en : ((min n 1 : Nat) : Int) = min (n : Int) 1 := by omega
  have eq : ((min (minF (min m 1) (min n 1)) 1 : Nat) : Int) = min ((minF (min m 1) (min n 1) : Nat) : Int) 1 := by omega
  rw [eq]
  rw [em, en] at CS
  generalize minF (min m 1) (min n 1) = q at *
  clear hc em en eq
  go_enter Try.func48, Try.ntmps48
  go_wp2_with (go_at_call 42; ((with_reducible refine CS.out.mono ?_); rintro e _ ⟨rfl, y, rfl⟩))
  all_goals
    go_ret
    exact ⟨rfl, y, rfl⟩
set_option maxHeartbeats 1000000 in
theorem least_repeating (all : Bool) (w : World) :
    Calls Try.prog 38 #[.bool all, .func (.func 42) #[] #[]] w fun e w' => ∃ g lb, e = .returned (.func (.func g) #[] lb) ∧ (∀ args w, (callFunc g args).run Try.prog w = .ok (.enter g args) w) ∧ Says w' g lb (repF all minF) ∧ Below w.heap.size w w' := by
  cases all
  · go_enter Try.func38, Try.ntmps38
    go_wp2
    go_ret
    refine ⟨_, _, rfl, enters_of Try.func48 (by kernel_rfl) rfl, least_set_says _ _ (by simp) (by simp), (Below.refl _ _).alloc (Nat.le_refl _) _⟩
  · go_enter Try.func38, Try.ntmps38
    go_wp2
    go_ret
    refine ⟨_, _, rfl, enters_of Try.func42 (by kernel_rfl) rfl, least_says _, (Below.refl _ _).alloc (Nat.le_refl _) _⟩
set_option maxHeartbeats 2000000 in
theorem Intersect_calls (all : Bool) (a : Option Addr) (n c : Nat) (l : List Rw) (a' : Option Addr) (n' c' : Nat) (l' : List Rw) (w : World) (h : Rws w a n l) (h' : Rws w a' n' l') (hn : n ≤ 10000) (hn' : n' ≤ 10000) :
    Calls Try.prog 22 #[.slice a n c, .slice a' n' c', .bool all] w fun e w' => Gives w w' e (repF all minF) (vss l) (vss l') := by
  have C1 := Lib.hid (least_repeating all w)
  have HH := Lib.hid h
  have HH' := Lib.hid h'
  clear h h'
  go_enter Try.func22, Try.ntmps22
  go_wp2_with (go_at_call 38; ((with_reducible refine C1.out.mono ?_); rintro e w1 ⟨g, lb, rfl, eg, hx⟩; have HX := Lib.hid hx; clear hx; have C2 : Hid (Calls Try.prog 35 #[.slice a n c, .slice a' n' c', .func (.func g) #[] lb] w1 fun e w' => ∃ v R, e = .returned v ∧ RowsOwn w' w1.heap.size v R ∧ CombOf (repF all minF) (vss l) (vss l') (vss R) ∧ Below w1.heap.size w1 w') := Lib.hid (combine_calls g lb (repF all minF) (repF_le minF_le) eg a n c l a' n' c' l' w1 HX.out.1 (HH.out.later HX.out.2) (HH'.out.later HX.out.2) hn hn'); clear eg))
  go_wp2_with (go_at_call 35; ((with_reducible refine C2.out.mono ?_); rintro e w2 ⟨v, R, rfl, hy⟩; have HY := Lib.hid hy; clear hy))
  go_ret
  exact Gives.of ⟨v, R, rfl, HY.out.1.mono HX.out.2.size, HY.out.2.1, HX.out.2.trans (HY.out.2.2.mono HX.out.2.size)⟩
set_option maxHeartbeats 2000000 in
theorem Canonical_calls (a : Option Addr) (n c : Nat) (l : List Rw) (w : World) (h : Rws w a n l) (hn : n ≤ 10000) :
    Calls Try.prog 16 #[.slice a n c] w fun e w' => Gives w w' e addF (vss l) [] := by
  have C2 : Hid (Calls Try.prog 35 #[.slice a n c, .slice none 0 0, .func (.func 36) #[] #[]] w fun e w' => ∃ v R, e = .returned v ∧ RowsOwn w' w.heap.size v R ∧ CombOf addF (vss l) (vss []) (vss R) ∧ Below w.heap.size w w') := Lib.hid (combine_calls _ _ addF addF_le (enters_of Try.func36 (by kernel_rfl) rfl) a n c l none 0 0 [] w (plus_says w) h (Rws.nil w none) hn (by omega))
  clear h
  go_enter Try.func16, Try.ntmps16
  go_wp2_with (go_at_call 35; ((with_reducible refine C2.out.mono ?_); rintro e w2 ⟨v, R, rfl, hy⟩; have HY := Lib.hid hy; clear hy))
  go_ret
  exact Gives.of ⟨v, R, rfl, HY.out⟩
set_option maxHeartbeats 2000000 in
theorem Distinct_calls (a : Option Addr) (n c : Nat) (l : List Rw) (w : World) (h : Rws w a n l) (hn : n ≤ 10000) :
    Calls Try.prog 24 #[.slice a n c] w fun e w' => Gives w w' e (repF false addF) (vss l) [] := by
  have C2 : Hid (Calls Try.prog 18 #[.slice a n c, .slice none 0 0, .bool false] w fun e w' => Gives w w' e (repF false addF) (vss l) (vss [])) := Lib.hid (Union_calls false a n c l none 0 0 [] w h (Rws.nil w none) hn (by omega))
  clear h
  go_enter Try.func24, Try.ntmps24
  go_wp2_with (go_at_call 18; ((with_reducible refine C2.out.mono ?_); rintro e w2 ⟨a1, c1, R, rfl, hy⟩; have HY := Lib.hid hy; clear hy))
  go_ret
  exact ⟨a1, c1, R, rfl, HY.out⟩
end Go.Proofs.Ytihdfomkphbdnaa
