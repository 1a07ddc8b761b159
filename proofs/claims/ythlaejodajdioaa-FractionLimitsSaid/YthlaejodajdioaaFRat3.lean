/-
  The program's fractions: sums.
-/
import Derived.Test.YthlaejodajdioaaFRat2
set_option linter.unusedVariables false
namespace Go.Proofs.Ythlaejodajdioaa
open Go Go.RowKit Go.Deep
theorem smB_rng {n d : Int} (h : smB n d = true) : -2147483647 ≤ n ∧ n ≤ 2147483647 ∧ d ≤ 2147483647 := by
  unfold smB at h; simp at h; omega
theorem mul_small {n d : Int} (hn : -2147483647 ≤ n ∧ n ≤ 2147483647) (hd : -2147483647 ≤ d ∧ d ≤ 2147483647) : -4611686014132420609 ≤ n * d ∧ n * d ≤ 4611686014132420609 := by
  have h : (n * d).natAbs ≤ 2147483647 * 2147483647 := by
    rw [Int.natAbs_mul]
    exact Nat.mul_le_mul (by omega) (by omega)
  omega
theorem i64_id {n : Int} (h : -9223372036854775808 ≤ n) (h' : n ≤ 9223372036854775807) : IntKind.i64.wrap n = n := by rw [IntKind.wrap_i64]; omega
set_option maxHeartbeats 8000000 in
set_option maxRecDepth 20000 in
theorem plus_small (an bn : Int) (ad bd : Nat) (w : World) (ha : vaB an ad = true) (hb : vaB bn bd = true) (h1 : smB an ad = true) (h2 : smB bn bd = true) :
    Calls Try.prog 22 #[.agg #[.int .i64 an, .int .i64 (ad : Int)], .agg #[.int .i64 bn, .int .i64 (bd : Int)]] w fun e w' => e = .returned (frV (an * bd + bn * ad) (ad * bd)) ∧ Cls w w' := by
  have S1 := Lib.hid (fun W => small_calls an ad W)
  have S2 := Lib.hid (fun W => small_calls bn bd W)
  obtain ⟨a1, _, _, _⟩ := vaB_rng ha
  obtain ⟨b1, _, _, _⟩ := vaB_rng hb
  obtain ⟨a2, a3, a4⟩ := smB_rng h1
  obtain ⟨b2, b3, b4⟩ := smB_rng h2
  have m1 := mul_small (n := an) (d := bd) ⟨a2, a3⟩ ⟨by omega, b4⟩
  have m2 := mul_small (n := bn) (d := ad) ⟨b2, b3⟩ ⟨by omega, a4⟩
  have m3 := mul_small (n := ad) (d := bd) ⟨by omega, a4⟩ ⟨by omega, b4⟩
  have m4 : 0 < ad * bd := Nat.mul_pos (by omega) (by omega)
  have e0 : ((ad : Int) * (bd : Int)) = ((ad * bd : Nat) : Int) := (Int.natCast_mul _ _).symm
  have C1 := Lib.hid (fun W => Of_calls (an * bd + bn * ad) ((ad : Int) * (bd : Int)) W (by unfold In64; omega) (by unfold In64; omega) (by omega))
  have et : turned (an * bd + bn * ad) ((ad : Int) * (bd : Int)) = an * bd + bn * ad := by unfold turned; rw [if_neg (by omega)]
  have ed : ((ad : Int) * (bd : Int)).natAbs = ad * bd := by rw [e0]; rfl
  rw [et, ed] at C1
  rw [h1] at S1
  rw [h2] at S2
  have q1 : IntKind.i64.wrap (an * (bd : Int)) = an * (bd : Int) := i64_id (by omega) (by omega)
  have q2 : IntKind.i64.wrap (bn * (ad : Int)) = bn * (ad : Int) := i64_id (by omega) (by omega)
  have q3 : IntKind.i64.wrap ((ad : Int) * (bd : Int)) = (ad : Int) * (bd : Int) := i64_id (by omega) (by omega)
  have q4 : IntKind.i64.wrap (an * (bd : Int) + bn * (ad : Int)) = an * (bd : Int) + bn * (ad : Int) := i64_id (by omega) (by omega)
  clear h1 h2 e0 et ed ha hb
  have HVE : frV (an * bd + bn * ad) (ad * bd) = .tuple #[.agg #[.int .i64 (frN (an * bd + bn * ad) (ad * bd)), .int .i64 (frD (an * bd + bn * ad) (ad * bd))], .int .i64 (frE (an * bd + bn * ad) (ad * bd))] := rfl
  rw [HVE] at C1 ⊢
  clear HVE
  generalize frN (an * bd + bn * ad) (ad * bd) = rn at *
  generalize frD (an * bd + bn * ad) (ad * bd) = rd at *
  generalize frE (an * bd + bn * ad) (ad * bd) = re at *
  go_enter Try.func22, Try.ntmps22
  go_wp2_with (first | (go_at_call 43; (with_reducible refine (S1.out _).mono ?_); rintro e _ ⟨rfl, ⟨y1, rfl⟩⟩; have ys := y1.size; (try simp at ys); have k0 : w.heap.size < y1.val.heap.size := (by omega); have k1 : w.heap.size + 1 < y1.val.heap.size := (by omega)) | (go_at_call 43; (with_reducible refine (S2.out _).mono ?_); rintro e _ ⟨rfl, ⟨y2, rfl⟩⟩; have y2s := y2.size; have k2 : w.heap.size < y2.val.heap.size := (by omega); have k3 : w.heap.size + 1 < y2.val.heap.size := (by omega)) | (go_at_call 17; (with_reducible refine (C1.out _).mono ?_); rintro e _ ⟨rfl, ⟨y3, rfl⟩⟩; have y3s := y3.size; obtain ⟨c0, c1, c2, c3, c4⟩ := two_z ((y3.below.block (w.heap.size + 1 + 1) (by omega)).trans ((y2.below.block (w.heap.size + 1 + 1) (by omega)).trans ((y1.below.block (w.heap.size + 1 + 1) (by simp)).trans (new_at2 w _ _ _ _))))))
  refine ret_ex rfl ?_
  simp [results, Try.results22, go_sem, c3, c4]
  refine Cls.of ?_
  repeat first | with_reducible exact Below.refl _ _ | with_reducible refine Below.setCell ?_ (by first | omega | (simp; done) | (simp; omega)) _ | with_reducible refine Below.alloc ?_ (by first | omega | (simp; done) | (simp; omega)) _ | with_reducible refine Below.drew ?_ | with_reducible refine Ext.on _ ?_ (by first | omega | (simp; done) | (simp; omega))
theorem gcd_mod (n s : Nat) : Nat.gcd (n % s) s = Nat.gcd n s := by
  rw [← Nat.gcd_rec, Nat.gcd_comm]
end Go.Proofs.Ythlaejodajdioaa
