/-
  Sums, differences and quotients of words, with what is carried.
-/
import Derived.Test.YtogjollefllajaaFCmp
import Derived.Test.YtogjollefllajaaFBits
import Derived.Test.YtogjollefllajaaLNat1
import Derived.Shelf.Spec.BitsCarry
set_option linter.unusedVariables false
namespace Go.Proofs.Ytogjollefllajaa
open Go Go.RowKit Go.Deep
set_option maxHeartbeats 2000000 in
set_option maxRecDepth 20000 in
theorem Div64_zero (lo y : Nat) (w : World) (h1 : 0 < y) (h2 : y < 18446744073709551616) (h3 : lo < 18446744073709551616) :
    Calls Try.prog 89 #[.int .u64 0, .int .u64 lo, .int .u64 y] w fun e w' => e = .returned (.tuple #[.int .u64 ((lo / y : Nat) : Int), .int .u64 ((lo % y : Nat) : Int)]) ∧ Cls w w' := by
  have d1 : ((y : Int) == 0) = false := by simp; omega
  have d2 : ¬ (y : Int) = 0 := by omega
  have d3 : decide ((y : Int) ≤ 0) = false := decide_eq_false (by omega)
  have d4 : ¬ y = 0 := by omega
  have q1 : (lo : Int).tdiv (y : Int) = ((lo / y : Nat) : Int) := tdiv_nat' _ _
  have q2 : (lo : Int).tmod (y : Int) = ((lo % y : Nat) : Int) := by rw [Int.tmod_eq_emod_of_nonneg (by omega)]; omega
  have q3 : IntKind.u64.wrap ((lo / y : Nat) : Int) = ((lo / y : Nat) : Int) := u64_id (Nat.lt_of_le_of_lt (Nat.div_le_self _ _) h3)
  have q4 : IntKind.u64.wrap ((lo % y : Nat) : Int) = ((lo % y : Nat) : Int) := u64_id (Nat.lt_of_le_of_lt (Nat.mod_le _ _) h3)
  generalize lo / y = a at *
  generalize lo % y = b at *
  go_enter Try.func89, Try.ntmps89
  go_wp2_with fail
  refine wp_region_ext (by kernel_rfl) (by kernel_rfl) ?_
  repeat (go_big_quiet_step (fail))
  refine wpQuiet_nil ?_
  rintro _ ⟨y1, rfl⟩
  clear q1 q2 q3 q4
  go_wp2_with fail
  go_ret2
  exact ⟨rfl, y1, rfl⟩
theorem Div64_calls (hi lo y : Nat) (w : World) (h1 : hi < y) (h2 : y < 18446744073709551616) (h3 : lo < 18446744073709551616) :
    Calls Try.prog 89 #[.int .u64 hi, .int .u64 lo, .int .u64 y] w fun e w' => e = .returned (.tuple #[.int .u64 (((hi * 18446744073709551616 + lo) / y : Nat) : Int), .int .u64 (((hi * 18446744073709551616 + lo) % y : Nat) : Int)]) ∧ Cls w w' := by
  by_cases h0 : hi = 0
  · subst h0
    rw [Nat.zero_mul, Nat.zero_add]
    exact Div64_zero lo y w h1 h2 h3
  · exact (Div64_great hi lo y w (Nat.pos_of_ne_zero h0) h1 h2 h3).mono fun _ _ ⟨he, hw⟩ => ⟨he, Cls.same hw⟩
theorem add64_nat (x y c : Nat) (hc : c ≤ 1) (w : World) :
    (callFunc 93 #[.int .u64 x, .int .u64 y, .int .u64 c]).run Try.prog w = .ok (.value (.tuple #[.int .u64 (((x + y + c) % 18446744073709551616 : Nat) : Int), .int .u64 (((x + y + c) / 18446744073709551616 : Nat) : Int)])) w := by
  rw [run_callFunc_extern Try.func93 (by kernel_rfl) (by kernel_rfl) (by kernel_rfl) (e := add64Entry) (by kernel_rfl), run_add64 x y c (by omega) (by omega) (by omega) (by omega)]
  simp only [Result.andThen]
  congr 5 <;> omega
theorem sub64_nat (x y b : Nat) (hb : b ≤ 1) (w : World) :
    (callFunc 97 #[.int .u64 x, .int .u64 y, .int .u64 b]).run Try.prog w =
      .ok (.value (.tuple #[.int .u64 (((x + 18446744073709551616 - y - b) % 18446744073709551616 : Nat) : Int), .int .u64 ((if x < y + b then 1 else 0 : Nat) : Int)])) w := by
  rw [run_callFunc_extern Try.func97 (by kernel_rfl) (by kernel_rfl) (by kernel_rfl) (e := sub64Entry) (by kernel_rfl), run_sub64 x y b hb]
  rfl
end Go.Proofs.Ytogjollefllajaa
