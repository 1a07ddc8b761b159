/-
  The program's integers: products, sums and quotients as numbers.
-/
import Derived.Test.YtogjollefllajaaLInt
import Derived.Test.YtogjollefllajaaLSumM
set_option linter.unusedVariables false
namespace Go.Proofs.Ytogjollefllajaa
open Go Go.RowKit Go.Deep
/-- An integer of the program. -/
def IAt (w : World) (g : Bool) (s : Sl) (N : Int) : Prop := NatAt w s N.natAbs ∧ SgOf g N
theorem IAt.later {w w' : World} {g : Bool} {s : Sl} {N : Int} (h : IAt w g s N) (hb : Below w.heap.size w w') : IAt w' g s N := ⟨h.1.later hb, h.2⟩
theorem NatAt.len {w : World} {s : Sl} {m k : Nat} (h : NatAt w s m) (hm : m < wp k) : s.len ≤ k := by rw [h.1]; exact wp_len hm
def RInt (w : World) (N : Int) (e : Ending) (w' : World) : Prop := ∃ (g : Bool) (s : Sl), e = .returned (.agg #[.bool g, .slice s.a s.len s.cap]) ∧ IAt w' g s N ∧ Cls w w'
theorem litimes2 (g : Bool) (a : Option Addr) (n c : Nat) (N k : Int) (w : World) (h : IAt w g ⟨a, n, c⟩ N) {j : Nat} (hN : N.natAbs < wp j) (hj : j ≤ 1000) (hk : In64 k) :
    Calls Try.prog 79 #[.agg #[.bool g, .slice a n c], .int .i64 k] w (RInt w (N * k)) := by
  refine (litimes_calls g a n c N.natAbs k w h.1 (Nat.le_trans (h.1.len hN) hj) hk).mono fun e w' ⟨s, he, hs, hc⟩ => ⟨_, s, he, ⟨?_, ?_⟩, hc⟩
  · rwa [Int.natAbs_mul]
  · unfold SgOf
    rw [Int.natAbs_mul, sgB_times, h.2]
theorem liover2 (g : Bool) (a : Option Addr) (n c : Nat) (N : Int) (u : Nat) (w : World) (h : IAt w g ⟨a, n, c⟩ N) {j : Nat} (hN : N.natAbs < wp j) (hj : j ≤ 1000) (hu0 : 0 < u) (hu : u < 18446744073709551616) (v : Int) (hv : (u : Int) * v = N) :
    Calls Try.prog 81 #[.agg #[.bool g, .slice a n c], .int .u64 u] w (RInt w v) := by
  have e1 : u * v.natAbs = N.natAbs := by rw [← hv, Int.natAbs_mul, Int.natAbs_natCast]
  have e2 : N.natAbs / u = v.natAbs := by rw [← e1, Nat.mul_div_cancel_left _ hu0]
  refine (liover_calls g a n c N.natAbs u w h.1 (Nat.le_trans (h.1.len hN) hj) hu0 hu).mono fun e w' ⟨s, he, hs, hc⟩ => ⟨_, s, he, ⟨?_, ?_⟩, hc⟩
  · rwa [← e2]
  · have e3 := sgB_over (g := g) (m := N.natAbs) (u := u) ⟨v.natAbs, e1.symm⟩
    have e4 : sgB g N.natAbs = N := h.2
    have e6 : (u : Int) * sgB g (N.natAbs / u) = (u : Int) * v := by rw [e3, e4, hv]
    have e5 := Int.eq_of_mul_eq_mul_left (by omega) e6
    unfold SgOf
    rw [← e2]; exact e5
theorem liplus2 (g : Bool) (a : Option Addr) (n c : Nat) (g' : Bool) (a' : Option Addr) (n' c' : Nat) (N N' : Int) (w : World) (h : IAt w g ⟨a, n, c⟩ N) (h' : IAt w g' ⟨a', n', c'⟩ N') {j : Nat} (hN : N.natAbs < wp j) (hN' : N'.natAbs < wp j) (hj : j ≤ 1000) (h0 : N' ≠ 0) :
    Calls Try.prog 80 #[.agg #[.bool g, .slice a n c], .agg #[.bool g', .slice a' n' c']] w (RInt w (N + N')) := by
  have l1 := Nat.le_trans (h.1.len hN) hj
  have l2 := Nat.le_trans (h'.1.len hN') hj
  have e1 : sgB g N.natAbs = N := h.2
  have e2 : sgB g' N'.natAbs = N' := h'.2
  cases hg : (g == g') with
  | true =>
    obtain rfl : g = g' := by simpa using hg
    have e3 : sgB g (N.natAbs + N'.natAbs) = N + N' := by rw [sgB_same, e1, e2]
    refine (liplus_same g a n c a' n' c' N.natAbs N'.natAbs w h.1 h'.1 l1 l2).mono fun e w' ⟨s, he, hs, hc⟩ => ⟨_, s, he, ?_, hc⟩
    rw [← e3]
    exact ⟨by rw [sgB_abs]; exact hs, SgOf.of _ _⟩
  | false =>
    by_cases hm : N.natAbs < N'.natAbs
    · have e3 : sgB g' (N'.natAbs - N.natAbs) = N + N' := by rw [sgB_less hg hm, e1, e2]
      refine (liplus_less g g' hg a n c a' n' c' N.natAbs N'.natAbs w h.1 h'.1 l1 l2 hm).mono fun e w' ⟨s, he, hs, hc⟩ => ⟨_, s, he, ?_, hc⟩
      rw [← e3]
      exact ⟨by rw [sgB_abs]; exact hs, SgOf.of _ _⟩
    · have e3 : sgB g (N.natAbs - N'.natAbs) = N + N' := by rw [sgB_more hg (by omega), e1, e2]
      refine (liplus_more g g' hg a n c a' n' c' N.natAbs N'.natAbs w h.1 h'.1 l1 l2 (by omega) (by omega)).mono fun e w' ⟨s, he, hs, hc⟩ => ⟨_, s, he, ?_, hc⟩
      rw [← e3]
      exact ⟨by rw [sgB_abs]; exact hs, SgOf.of _ _⟩
end Go.Proofs.Ytogjollefllajaa
