/-
  math/bits: the length of a number, and the quotient of a number of 128 bits.
-/
import Derived.Test.YthbdkhmgopahbaaJ02
import Derived.Test.YthbdkhmgopahbaaJ09
import Derived.Lib.BitFns
import Derived.Deep.Light
import Derived.Lib.ItoaNum
import Derived.Laws.BitsAllLaws
import Derived.Shelf.Bits.Mul64
import Derived.WalkKit
import Derived.Deep.CutBlock
import Derived.Deep.DeepCutAuto
set_option linter.unusedVariables false
namespace Go.Proofs.Ythbdkhmgopahbaa
open Go Go.RowKit Go.Deep
theorem tab_size : (Lib.len8tab.size : Int) = 256 := by have := Lib.len8tab_size; omega
theorem tab_get {y : Int} (h : y.toNat < Lib.len8tab.size) (h0 : 0 ≤ y) (h1 : y ≤ 255) : ((Lib.len8tab[y.toNat]'h).toNat : Int) = (Lib.bitLen y.toNat : Int) := by
  have := Lib.len8_of y h0 h1
  unfold Lib.len8 at this
  rw [getElem?_pos Lib.len8tab y.toNat h] at this
  simpa using this
theorem len_leaf {k : Nat} {x y : Int} (h : y.toNat < Lib.len8tab.size) (hk : k ≤ 56) (h0 : 0 ≤ y) (h1 : y ≤ 255) (e : Lib.bitLen x.toNat = k + Lib.bitLen y.toNat) : wrap64 ((k : Int) + wrap64 ((Lib.len8tab[y.toNat]'h).toNat : Int)) = (Lib.bitLen x.toNat : Int) := by
  have l := Lib.bitLen_le8' y h0 h1
  rw [tab_get h h0 h1, e]
  unfold wrap64
  omega
theorem len_leaf0 {x : Int} (h : x.toNat < Lib.len8tab.size) (h0 : 0 ≤ x) (h1 : x ≤ 255) : wrap64 (wrap64 ((Lib.len8tab[x.toNat]'h).toNat : Int)) = (Lib.bitLen x.toNat : Int) := by
  have l := Lib.bitLen_le8' x h0 h1
  rw [tab_get h h0 h1]
  unfold wrap64
  omega
set_option maxHeartbeats 32000000 in
set_option maxRecDepth 1000000 in
theorem Len64_calls (x : Int) (w : World) (h0 : 0 ≤ x) (h1 : x ≤ 18446744073709551615) :
    Calls Try.prog 119 #[.int .u64 x] w fun e w' => e = .returned (.int .i64 (Lib.bitLen x.toNat)) ∧ w' = w := by
  go_enter Try.func119, Try.ntmps119
  go_wp2
  all_goals first
    | (go_ret; refine ⟨ret_int ?_, rfl⟩; go_light)
    | (exfalso
       go_light
       have hs := tab_size
       omega)
  all_goals first
    | (refine len_leaf (k := 56) _ (by omega) (by omega) (by omega) ?_
       rw [Lib.bitLen_shift56 x.toNat (by omega) (by omega)]
       congr 2
       omega)
    | (refine len_leaf (k := 48) _ (by omega) (by omega) (by omega) ?_
       rw [Lib.bitLen_shift48 x.toNat (by omega) (by omega)]
       congr 2
       omega)
    | (refine len_leaf (k := 40) _ (by omega) (by omega) (by omega) ?_
       rw [Lib.bitLen_shift40 x.toNat (by omega) (by omega)]
       congr 2
       omega)
    | (refine len_leaf (k := 32) _ (by omega) (by omega) (by omega) ?_
       rw [Lib.bitLen_shift32 x.toNat (by omega) (by omega)]
       congr 2
       omega)
    | (refine len_leaf (k := 24) _ (by omega) (by omega) (by omega) ?_
       rw [Lib.bitLen_shift24 x.toNat (by omega) (by omega)]
       congr 2
       omega)
    | (refine len_leaf (k := 16) _ (by omega) (by omega) (by omega) ?_
       rw [Lib.bitLen_shift16 x.toNat (by omega) (by omega)]
       congr 2
       omega)
    | (refine len_leaf (k := 8) _ (by omega) (by omega) (by omega) ?_
       rw [Lib.bitLen_shift8 x.toNat (by omega) (by omega)]
       congr 2
       omega)
    | (exact len_leaf0 _ (by omega) (by omega))
theorem bitLen_bd {y : Nat} (h : 0 < y) (h2 : y < 18446744073709551616) : 1 ≤ Lib.bitLen y ∧ Lib.bitLen y ≤ 64 ∧ 2 ^ (Lib.bitLen y - 1) ≤ y ∧ y < 2 ^ Lib.bitLen y := by
  obtain ⟨a, b, c⟩ := Lib.bitLenAux_bounds 64 y h2 (by omega)
  exact ⟨a, Lib.bitLen_le y 64 (Nat.le_refl _) h2, b, c⟩
theorem tdiv_nat' (x g : Nat) : (x : Int).tdiv (g : Int) = ((x / g : Nat) : Int) := by rw [Int.tdiv_eq_ediv_of_nonneg (by omega)]; omega
theorem Lead_calls (y : Nat) (w : World) (h : 0 < y) (h2 : y < 18446744073709551616) :
    Calls Try.prog 115 #[.int .u64 y] w fun e w' => e = .returned (.int .i64 ((64 - Lib.bitLen y : Nat) : Int)) ∧ w = w' := by
  obtain ⟨b1, b2, _, _⟩ := bitLen_bd h h2
  have C1 := Lib.hid (fun W => (Len64_calls (y : Int) W (by omega) (by omega)).mono fun _ _ ⟨he, hw⟩ => (⟨he, hw.symm⟩ : _ ∧ W = _))
  have HE : Hid (((64 - Lib.bitLen y : Nat) : Int) = 64 - (Lib.bitLen y : Int)) := Lib.hid (by omega)
  rw [HE.out]
  simp only [Int.toNat_natCast] at C1
  generalize Lib.bitLen y = L at *
  clear HE
  go_enter Try.func115, Try.ntmps115
  go_wp2_with (go_at_call 119; (with_reducible refine (C1.out _).mono ?_); rintro e _ ⟨rfl, rfl⟩)
  go_ret
  exact ⟨rfl, rfl⟩
set_option maxHeartbeats 16000000 in
set_option maxRecDepth 20000 in
theorem Div64_core (hi lo y s Y A B U C H Lw D1 D0 q0 r0 m0 Q1 R1 M1 q2 r2 m2 Q0 R0 M0 Z : Nat) (w : World) (h0 : 0 < hi) (h1 : hi < y) (h2 : y < 18446744073709551616) (hs : s = 64 - Lib.bitLen y) (hs2 : s ≤ 63)
    (fY : IntKind.u64.wrap ((y : Int) * 2 ^ s) = (Y : Int)) (fA : IntKind.u64.wrap ((hi : Int) * 2 ^ s) = (A : Int)) (fB : (lo : Int) / 2 ^ (64 - s) = (B : Int)) (fU : bits .or .u64 (A : Int) (B : Int) = (U : Int)) (fC : IntKind.u64.wrap ((lo : Int) * 2 ^ s) = (C : Int))
    (fH : (Y : Int) / 4294967296 = (H : Int)) (fL : bits .and .u64 (Y : Int) 4294967295 = (Lw : Int)) (fD1 : (C : Int) / 4294967296 = (D1 : Int)) (fD0 : bits .and .u64 (C : Int) 4294967295 = (D0 : Int))
    (hH : 2147483648 ≤ H) (hH2 : H < 4294967296) (hL : Lw < 4294967296) (hUU : U < H * 4294967296 + Lw) (hD1 : D1 < 4294967296) (hD0 : D0 < 4294967296)
    (f1 : (U : Int).tdiv (H : Int) = (q0 : Int)) (f2 : (q0 : Int) * (H : Int) = (m0 : Int)) (f3 : (U : Int) - (m0 : Int) = (r0 : Int)) (e1 : q0 = U / H) (e2 : r0 = U % H) (bq0 : q0 ≤ 4294967297) (bm0 : m0 ≤ U) (bU : U < 18446744073709551616)
    (hQ1 : (U * 4294967296 + D1) / (H * 4294967296 + Lw) = Q1) (g1 : (Q1 : Int) * (Y : Int) = (M1 : Int)) (g2 : IntKind.u64.wrap (IntKind.u64.wrap (IntKind.u64.wrap ((U : Int) * 4294967296) + (D1 : Int)) - IntKind.u64.wrap (M1 : Int)) = (R1 : Int)) (hUR1 : R1 < H * 4294967296 + Lw) (bR1 : R1 < 18446744073709551616) (bQ1 : Q1 < 4294967296)
    (f4 : (R1 : Int).tdiv (H : Int) = (q2 : Int)) (f5 : (q2 : Int) * (H : Int) = (m2 : Int)) (f6 : (R1 : Int) - (m2 : Int) = (r2 : Int)) (e3 : q2 = R1 / H) (e4 : r2 = R1 % H) (bq2 : q2 ≤ 4294967297) (bm2 : m2 ≤ R1)
    (hQ0 : (R1 * 4294967296 + D0) / (H * 4294967296 + Lw) = Q0) (g3 : (Q0 : Int) * (Y : Int) = (M0 : Int)) (g4 : IntKind.u64.wrap (IntKind.u64.wrap (IntKind.u64.wrap ((R1 : Int) * 4294967296) + (D0 : Int)) - IntKind.u64.wrap (M0 : Int)) = (R0 : Int)) (bQ0 : Q0 < 4294967296) (hZ : (R0 : Int) / 2 ^ s = (Z : Int)) :
    Calls Try.prog 104 #[.int .u64 hi, .int .u64 lo, .int .u64 y] w fun e w' => e = .returned (.tuple #[.int .u64 ((Q1 : Int) * 4294967296 + (Q0 : Int)), .int .u64 (Z : Int)]) ∧ w = w' := by
  have C1 := Lib.hid (fun W => Lead_calls y W (by omega) h2)
  rw [← hs] at C1
  have HKU : Hid (KnI U D1 H Lw q0 r0) := Lib.hid (by rw [e1, e2]; exact KnI.start hH hH2 hD1 hUU hL)
  have HKR1 : Hid (KnI R1 D0 H Lw q2 r2) := Lib.hid (by rw [e3, e4]; exact KnI.start hH hH2 hD0 hUR1 hL)
  have br0 : r0 < 4294967296 := by rw [e2]; have := Nat.mod_lt U (show 0 < H by omega); omega
  have br2 : r2 < 4294967296 := by rw [e4]; have := Nat.mod_lt R1 (show 0 < H by omega); omega
  have c1 : IntKind.u64.wrap (s : Int) = (s : Int) := u64_id (by omega)
  have c2 : min s 64 = s := by omega
  have d1 : ((y : Int) == 0) = false := by simp; omega
  have d2 : ((hi : Int) == 0) = false := by simp; omega
  have d3 : decide (y ≤ hi) = false := decide_eq_false (by omega)
  have d4 : ¬ (H : Int) = 0 := by omega
  have d5 : ¬ H = 0 := by omega
  have w1 : IntKind.u64.wrap (q0 : Int) = (q0 : Int) := u64_id (by omega)
  have w2 : IntKind.u64.wrap (m0 : Int) = (m0 : Int) := u64_id (by omega)
  have w3 : IntKind.u64.wrap (r0 : Int) = (r0 : Int) := u64_id (by omega)
  have w4 : IntKind.u64.wrap (q2 : Int) = (q2 : Int) := u64_id (by omega)
  have w5 : IntKind.u64.wrap (m2 : Int) = (m2 : Int) := u64_id (by omega)
  have w6 : IntKind.u64.wrap (r2 : Int) = (r2 : Int) := u64_id (by omega)
  clear hs e1 e2 e3 e4
  go_enter Try.func104, Try.ntmps104
  go_upto_block 0 with (go_at_call 115; (with_reducible refine (C1.out _).mono ?_); rintro e _ ⟨rfl, rfl⟩)
  go_cut [15] (fun s15 wx => s15 = .int .u64 (Q1 : Nat) ∧ wx = w)
  case first =>
    go_wp2_with fail
    go_loop [15, 16] (fun a b => ∃ q r : Nat, a = .int .u64 q ∧ b = .int .u64 r ∧ r < 4294967296 ∧ Hid (KnI U D1 H Lw q r)) (fun a _ => (intOf a).toNat)
    case atStart => exact ⟨_, _, rfl, rfl, by omega, HKU⟩
    case round =>
      obtain ⟨q, r, rfl, rfl, hr, HK⟩ := hrel
      have hm := HK.out.mul_le hL
      have hqb := HK.out.le
      obtain ⟨m, em⟩ : ∃ m : Nat, m = q * Lw := ⟨_, rfl⟩
      have fm : (q : Int) * (Lw : Int) = (m : Int) := by rw [em, Int.natCast_mul]
      have fmw : IntKind.u64.wrap (m : Int) = (m : Int) := u64_id (by omega)
      have EM := Lib.hid em
      rw [← em] at hm
      clear em
      by_cases hc1 : 4294967296 ≤ q
      · have HC : Hid (4294967296 ≤ q ∨ 4294967296 * r + D1 < q * Lw) := Lib.hid (.inl hc1)
        have d7 : decide (4294967296 ≤ (q : Int)) = true := decide_eq_true (by omega)
        have HS := Lib.hid (KnI.step hH hD1 hUU HK.out HC.out)
        have hq0 := HS.out.1
        have e5 : ((q - 1 : Nat) : Int) = (q : Int) - 1 := by omega
        have e6 : IntKind.u64.wrap ((q : Int) - 1) = (q : Int) - 1 := by rw [IntKind.wrap_u64]; omega
        by_cases hr1 : 4294967296 ≤ r + H
        · have HO := Lib.hid (KnI.out hH hL HS.out.2 (by have := HK.out.le; omega) hr1)
          have d9 : decide (4294967296 ≤ (r : Int) + (H : Int)) = true := decide_eq_true (by omega)
          clear HS hr1
          go_wp2_with fail
          go_meet
          case rel => exact ⟨by rw [← hQ1, ← HO.out, e5], by trivial⟩
        · have d9 : decide (4294967296 ≤ (r : Int) + (H : Int)) = false := decide_eq_false (by omega)
          go_wp2_with fail
          go_round
          case rel => exact ⟨q - 1, r + H, by rw [e5], by simp, by omega, Lib.hid HS.out.2⟩
          case measure => first | (simp [intOf]; done) | (simp [intOf]; omega)
      · have d7 : decide (4294967296 ≤ (q : Int)) = false := decide_eq_false (by omega)
        by_cases hc2 : 4294967296 * r + D1 < m
        · have HC : Hid (4294967296 ≤ q ∨ 4294967296 * r + D1 < q * Lw) := Lib.hid (.inr (by rw [← EM.out]; exact hc2))
          have d8 : decide (4294967296 * (r : Int) + (D1 : Int) < (m : Int)) = true := decide_eq_true (by omega)
          have HS := Lib.hid (KnI.step hH hD1 hUU HK.out HC.out)
          have hq0 := HS.out.1
          have e5 : ((q - 1 : Nat) : Int) = (q : Int) - 1 := by omega
          have e6 : IntKind.u64.wrap ((q : Int) - 1) = (q : Int) - 1 := by rw [IntKind.wrap_u64]; omega
          by_cases hr1 : 4294967296 ≤ r + H
          · have HO := Lib.hid (KnI.out hH hL HS.out.2 (by have := HK.out.le; omega) hr1)
            have d9 : decide (4294967296 ≤ (r : Int) + (H : Int)) = true := decide_eq_true (by omega)
            clear HS hr1
            go_wp2_with fail
            go_meet
            case rel => exact ⟨by rw [← hQ1, ← HO.out, e5], by trivial⟩
          · have d9 : decide (4294967296 ≤ (r : Int) + (H : Int)) = false := decide_eq_false (by omega)
            go_wp2_with fail
            go_round
            case rel => exact ⟨q - 1, r + H, by rw [e5], by simp, by omega, Lib.hid HS.out.2⟩
            case measure => first | (simp [intOf]; done) | (simp [intOf]; omega)
        · have d8 : decide (4294967296 * (r : Int) + (D1 : Int) < (m : Int)) = false := decide_eq_false (by omega)
          have HO := Lib.hid (KnI.end hH HK.out (by rw [← EM.out]; omega))
          go_wp2_with fail
          go_meet
          case rel => exact ⟨by rw [← hQ1, ← HO.out], by trivial⟩
  case rest =>
  obtain ⟨rfl, hw0⟩ := hcut
  obtain rfl : w = wc := hw0.symm
  go_upto_block 2 with (fail)
  go_cut [18] (fun s15 wx => s15 = .int .u64 (Q0 : Nat) ∧ wx = w)
  case first =>
    go_wp2_with fail
    go_loop [18, 16] (fun a b => ∃ q r : Nat, a = .int .u64 q ∧ b = .int .u64 r ∧ r < 4294967296 ∧ Hid (KnI R1 D0 H Lw q r)) (fun a _ => (intOf a).toNat)
    case atStart => exact ⟨_, _, rfl, rfl, by omega, HKR1⟩
    case round =>
      obtain ⟨q, r, rfl, rfl, hr, HK⟩ := hrel
      have hm := HK.out.mul_le hL
      have hqb := HK.out.le
      obtain ⟨m, em⟩ : ∃ m : Nat, m = q * Lw := ⟨_, rfl⟩
      have fm : (q : Int) * (Lw : Int) = (m : Int) := by rw [em, Int.natCast_mul]
      have fmw : IntKind.u64.wrap (m : Int) = (m : Int) := u64_id (by omega)
      have EM := Lib.hid em
      rw [← em] at hm
      clear em
      by_cases hc1 : 4294967296 ≤ q
      · have HC : Hid (4294967296 ≤ q ∨ 4294967296 * r + D0 < q * Lw) := Lib.hid (.inl hc1)
        have d7 : decide (4294967296 ≤ (q : Int)) = true := decide_eq_true (by omega)
        have HS := Lib.hid (KnI.step hH hD0 hUR1 HK.out HC.out)
        have hq0 := HS.out.1
        have e5 : ((q - 1 : Nat) : Int) = (q : Int) - 1 := by omega
        have e6 : IntKind.u64.wrap ((q : Int) - 1) = (q : Int) - 1 := by rw [IntKind.wrap_u64]; omega
        by_cases hr1 : 4294967296 ≤ r + H
        · have HO := Lib.hid (KnI.out hH hL HS.out.2 (by have := HK.out.le; omega) hr1)
          have d9 : decide (4294967296 ≤ (r : Int) + (H : Int)) = true := decide_eq_true (by omega)
          clear HS hr1
          go_wp2_with fail
          go_meet
          case rel => exact ⟨by rw [← hQ0, ← HO.out, e5], by trivial⟩
        · have d9 : decide (4294967296 ≤ (r : Int) + (H : Int)) = false := decide_eq_false (by omega)
          go_wp2_with fail
          go_round
          case rel => exact ⟨q - 1, r + H, by rw [e5], by simp, by omega, Lib.hid HS.out.2⟩
          case measure => first | (simp [intOf]; done) | (simp [intOf]; omega)
      · have d7 : decide (4294967296 ≤ (q : Int)) = false := decide_eq_false (by omega)
        by_cases hc2 : 4294967296 * r + D0 < m
        · have HC : Hid (4294967296 ≤ q ∨ 4294967296 * r + D0 < q * Lw) := Lib.hid (.inr (by rw [← EM.out]; exact hc2))
          have d8 : decide (4294967296 * (r : Int) + (D0 : Int) < (m : Int)) = true := decide_eq_true (by omega)
          have HS := Lib.hid (KnI.step hH hD0 hUR1 HK.out HC.out)
          have hq0 := HS.out.1
          have e5 : ((q - 1 : Nat) : Int) = (q : Int) - 1 := by omega
          have e6 : IntKind.u64.wrap ((q : Int) - 1) = (q : Int) - 1 := by rw [IntKind.wrap_u64]; omega
          by_cases hr1 : 4294967296 ≤ r + H
          · have HO := Lib.hid (KnI.out hH hL HS.out.2 (by have := HK.out.le; omega) hr1)
            have d9 : decide (4294967296 ≤ (r : Int) + (H : Int)) = true := decide_eq_true (by omega)
            clear HS hr1
            go_wp2_with fail
            go_meet
            case rel => exact ⟨by rw [← hQ0, ← HO.out, e5], by trivial⟩
          · have d9 : decide (4294967296 ≤ (r : Int) + (H : Int)) = false := decide_eq_false (by omega)
            go_wp2_with fail
            go_round
            case rel => exact ⟨q - 1, r + H, by rw [e5], by simp, by omega, Lib.hid HS.out.2⟩
            case measure => first | (simp [intOf]; done) | (simp [intOf]; omega)
        · have d8 : decide (4294967296 * (r : Int) + (D0 : Int) < (m : Int)) = false := decide_eq_false (by omega)
          have HO := Lib.hid (KnI.end hH HK.out (by rw [← EM.out]; omega))
          go_wp2_with fail
          go_meet
          case rel => exact ⟨by rw [← hQ0, ← HO.out], by trivial⟩
  case rest =>
  obtain ⟨rfl, hw2⟩ := hcut
  obtain rfl : w = wc := hw2.symm
  go_wp2_with fail
  go_ret2
  exact ⟨rfl, rfl⟩
theorem div_digit {U D Y Q R M : Nat} (hU : U < Y) (hD : D < 4294967296) (hY : Y < 18446744073709551616) (hQ : Q = (U * 4294967296 + D) / Y) (hR : R = (U * 4294967296 + D) % Y) (hM : M = Q * Y) :
    IntKind.u64.wrap (IntKind.u64.wrap (IntKind.u64.wrap ((U : Int) * 4294967296) + (D : Int)) - IntKind.u64.wrap (M : Int)) = (R : Int) ∧ R < Y ∧ Q < 4294967296 := by
  have h1 := Nat.div_add_mod (U * 4294967296 + D) Y
  have h2 := Nat.mod_lt (U * 4294967296 + D) (show 0 < Y by omega)
  rw [← hQ, ← hR, Nat.mul_comm, ← hM] at h1
  rw [← hR] at h2
  refine ⟨?_, h2, ?_⟩
  · rw [IntKind.wrap_u64, IntKind.wrap_u64, IntKind.wrap_u64, IntKind.wrap_u64]
    omega
  · rw [hQ, Nat.div_lt_iff_lt_mul (by omega)]
    omega
set_option maxRecDepth 20000 in
theorem Div64_great (hi lo y : Nat) (w : World) (h0 : 0 < hi) (h1 : hi < y) (h2 : y < 18446744073709551616) (h3 : lo < 18446744073709551616) :
    Calls Try.prog 104 #[.int .u64 hi, .int .u64 lo, .int .u64 y] w fun e w' => e = .returned (.tuple #[.int .u64 (((hi * 18446744073709551616 + lo) / y : Nat) : Int), .int .u64 (((hi * 18446744073709551616 + lo) % y : Nat) : Int)]) ∧ w = w' := by
  obtain ⟨b1, b2, b3, b4⟩ := bitLen_bd (y := y) (by omega) h2
  obtain ⟨s, hs⟩ : ∃ s, s = 64 - Lib.bitLen y := ⟨_, rfl⟩
  have hsL : Lib.bitLen y = 64 - s := by omega
  have hs2 : s ≤ 63 := by omega
  have hP : 0 < 2 ^ s := Nat.two_pow_pos s
  have hPP : 2 ^ (64 - s) * 2 ^ s = 18446744073709551616 := by rw [← Nat.pow_add, show 64 - s + s = 64 by omega]
  have hP3 : 2 ^ (64 - s - 1) * 2 ^ s = 9223372036854775808 := by rw [← Nat.pow_add, show 64 - s - 1 + s = 63 by omega]
  rw [hsL] at b3 b4
  have hY1 : 9223372036854775808 ≤ y * 2 ^ s := by rw [← hP3]; exact Nat.mul_le_mul_right _ b3
  have hY2 : y * 2 ^ s < 18446744073709551616 := by rw [← hPP]; exact Nat.mul_lt_mul_of_pos_right b4 hP
  have hlo : lo * 2 ^ s / 18446744073709551616 = lo / 2 ^ (64 - s) := by rw [← hPP, Nat.mul_div_mul_right _ _ hP]
  have hB : lo / 2 ^ (64 - s) < 2 ^ s := by
    rw [Nat.div_lt_iff_lt_mul (Nat.two_pow_pos _), Nat.mul_comm, hPP]; exact h3
  have hAB : hi * 2 ^ s ||| lo / 2 ^ (64 - s) = hi * 2 ^ s + lo / 2 ^ (64 - s) := nat_join s _ _ (Nat.mul_mod_left _ _) hB
  have hN := Nat.div_add_mod (lo * 2 ^ s) 18446744073709551616
  rw [hlo] at hN
  have hNP : (hi * 18446744073709551616 + lo) * 2 ^ s = (hi * 2 ^ s + lo / 2 ^ (64 - s)) * 18446744073709551616 + lo * 2 ^ s % 18446744073709551616 := by
    rw [Nat.add_mul, Nat.mul_right_comm]; omega
  have hlt : (hi * 18446744073709551616 + lo) * 2 ^ s < y * 2 ^ s * 18446744073709551616 := by
    rw [Nat.mul_right_comm]
    exact Nat.mul_lt_mul_of_pos_right (by omega) hP
  obtain ⟨d1, d2⟩ := shift_div (hi * 18446744073709551616 + lo) y (2 ^ s) hP
  rw [hNP] at hlt d1 d2
  have fYe : ((y : Int) * 2 ^ s) = ((y * 2 ^ s : Nat) : Int) := by simp
  have fAe : ((hi : Int) * 2 ^ s) = ((hi * 2 ^ s : Nat) : Int) := by simp
  have fBe : (lo : Int) / 2 ^ (64 - s) = ((lo / 2 ^ (64 - s) : Nat) : Int) := by simp
  have fCe : IntKind.u64.wrap ((lo : Int) * 2 ^ s) = ((lo * 2 ^ s % 18446744073709551616 : Nat) : Int) := by rw [IntKind.wrap_u64]; simp
  generalize hYY : y * 2 ^ s = Y at *
  generalize hAA : hi * 2 ^ s = A at *
  generalize hBB : lo / 2 ^ (64 - s) = B at *
  generalize hCC : lo * 2 ^ s % 18446744073709551616 = C at *
  have hC : C < 18446744073709551616 := by rw [← hCC]; exact Nat.mod_lt _ (by omega)
  have hUY : A + B < Y := by omega
  obtain ⟨H, hH⟩ : ∃ H, H = Y / 4294967296 := ⟨_, rfl⟩
  obtain ⟨Lw, hL⟩ : ∃ L, L = Y % 4294967296 := ⟨_, rfl⟩
  have hYe : Y = H * 4294967296 + Lw := by omega
  have hCe : C = C / 4294967296 * 4294967296 + C % 4294967296 := by omega
  have hHp : 0 < H := by omega
  obtain ⟨g1, g2, g3⟩ := div_digit (U := A + B) (D := C / 4294967296) (Y := Y) hUY (by omega) hY2 rfl rfl rfl
  obtain ⟨g4, g5, g6⟩ := div_digit (U := (((A + B) * 4294967296 + C / 4294967296) % Y)) (D := C % 4294967296) (Y := Y) g2 (by omega) hY2 rfl rfl rfl
  obtain ⟨k1, k2⟩ := knuth_two (A + B) (C / 4294967296) (C % 4294967296) Y (by omega)
  have hNC : (A + B) * 18446744073709551616 + C = ((A + B) * 4294967296 + C / 4294967296) * 4294967296 + C % 4294967296 := by omega
  rw [hNC] at d1 d2
  rw [k1] at d1
  rw [k2] at d2
  have j1 : 2147483648 ≤ H := by omega
  have j2 : H < 4294967296 := by omega
  have j3 : C / 4294967296 < 4294967296 := by omega
  have j4 : C % 4294967296 < 4294967296 := by omega
  have j5 : Lw < 4294967296 := by omega
  have hU2 := KnI.start (u := A + B) (d := C / 4294967296) (h := H) (l := Lw) j1 j2 j3 (by rw [← hYe]; exact hUY) j5
  have hR2 := KnI.start (u := (((A + B) * 4294967296 + C / 4294967296) % Y)) (d := C % 4294967296) (h := H) (l := Lw) j1 j2 j4 (by rw [← hYe]; exact g2) j5
  have x1 := Nat.div_add_mod (A + B) H
  have x2 := Nat.div_add_mod (((A + B) * 4294967296 + C / 4294967296) % Y) H
  have hUb : A + B < 18446744073709551616 := by omega
  have hZ : ((((((A + B) * 4294967296 + C / 4294967296) % Y) * 4294967296 + C % 4294967296) % Y : Nat) : Int) / 2 ^ s = (((hi * 18446744073709551616 + lo) % y : Nat) : Int) := by
    rw [d2]
    have : (((hi * 18446744073709551616 + lo) % y * 2 ^ s / 2 ^ s : Nat) : Int) = (((hi * 18446744073709551616 + lo) % y : Nat) : Int) := by rw [Nat.mul_div_cancel _ hP]
    rw [← this]; simp
  have hq : (((hi * 18446744073709551616 + lo) / y : Nat) : Int) = (((A + B) * 4294967296 + C / 4294967296) / Y : Nat) * 4294967296 + (((((A + B) * 4294967296 + C / 4294967296) % Y) * 4294967296 + C % 4294967296) / Y : Nat) := by rw [← d1]; simp
  rw [hq]
  refine Div64_core hi lo y s Y A B (A + B) C H Lw (C / 4294967296) (C % 4294967296) ((A + B) / H) ((A + B) % H) ((A + B) / H * H) (((A + B) * 4294967296 + C / 4294967296) / Y) (((A + B) * 4294967296 + C / 4294967296) % Y) _ ((((A + B) * 4294967296 + C / 4294967296) % Y) / H) ((((A + B) * 4294967296 + C / 4294967296) % Y) % H) ((((A + B) * 4294967296 + C / 4294967296) % Y) / H * H) (((((A + B) * 4294967296 + C / 4294967296) % Y) * 4294967296 + C % 4294967296) / Y) (((((A + B) * 4294967296 + C / 4294967296) % Y) * 4294967296 + C % 4294967296) % Y) _ _ w h0 h1 h2 hs hs2
    (by rw [fYe, u64_id hY2]) (by rw [fAe, u64_id (by omega)]) fBe (by rw [bits_or_u64_nat A B (by omega) (by omega), hAB]) fCe (by omega) (by rw [hL]; exact Mul64.maskN Y hY2) (by omega) (Mul64.maskN C hC) j1 j2 j5 (by rw [← hYe]; exact hUY) j3 j4
    (tdiv_nat' _ _) (Int.natCast_mul _ _).symm (by rw [Nat.mul_comm] at x1; omega) rfl rfl hU2.le (Nat.div_mul_le_self _ _) hUb (by rw [← hYe]) (Int.natCast_mul _ _).symm g1 (by rw [← hYe]; exact g2) (Nat.lt_trans g2 hY2) g3
    (tdiv_nat' _ _) (Int.natCast_mul _ _).symm (by rw [Nat.mul_comm] at x2; omega) rfl rfl hR2.le (Nat.div_mul_le_self _ _) (by rw [← hYe]) (Int.natCast_mul _ _).symm g4 g6 hZ
end Go.Proofs.Ythbdkhmgopahbaa
