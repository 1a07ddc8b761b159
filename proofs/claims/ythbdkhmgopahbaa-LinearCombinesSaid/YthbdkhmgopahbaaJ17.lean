/-
  The reference's sums in CheckSolution: one term, the last comparison.
-/
import Derived.Test.YthbdkhmgopahbaaJ15
import Derived.Test.YthbdkhmgopahbaaJ16
set_option linter.unusedVariables false
namespace Go.Proofs.Ythbdkhmgopahbaa
open Go Go.RowKit Go.Deep
theorem big_nat {n : Nat} (h : n < 18446744073709551616) : n < 1000000000 ^ 100 := wp_big (wp_one h) (by omega)
theorem RBig.congr {w w' : World} {e : Ending} {N N' : Int} {D D' : Nat} (h1 : frI N D = frI N' D') (h2 : frd N D = frd N' D') (h : RBig w N D e w') : RBig w N' D' e w' := by
  obtain ⟨s, t, he, hs, ht, hc⟩ := h
  generalize frI N D = v at *
  generalize frd N D = d at *
  subst h1 h2
  exact ⟨s, t, he, hs, ht, hc⟩
theorem one_big : 1 < 1000000000 ^ 100 := big_nat (n := 1) (by omega)
set_option maxHeartbeats 400000 in
set_option maxRecDepth 20000 in
theorem rterm_calls (fn co fd : Int) (hv : vaB fn fd = true) (hc : co.natAbs < 9223372036854775808) (W : World) (s2 t2 s3 t3 : Sl) (h2 : NumAt W s2 fn.natAbs) (h3 : NumAt W t2 fd.natAbs) (h4 : NumAt W s3 co.natAbs) (h5 : NumAt W t3 1) :
    Calls Try.prog 39 #[.agg #[.bool (decide (fn < 0)), .slice s2.a s2.len s2.cap, .slice t2.a t2.len t2.cap], .agg #[.bool (decide (co < 0)), .slice s3.a s3.len s3.cap, .slice t3.a t3.len t3.cap]] W (RBig W (fn * co) (fd.natAbs * 1)) := by
  obtain ⟨b1, b2, b3, b4⟩ := vaB_rng hv
  have k1 : fn.natAbs < 1000000000 ^ 100 := big_nat (by omega)
  have k2 : fd.natAbs < 1000000000 ^ 100 := big_nat (by omega)
  have k3 : co.natAbs < 1000000000 ^ 100 := big_nat (by omega)
  have k5 : 0 < fd.natAbs * 1 := by clear k1 k2 k3; omega
  exact Times_calls fn co fd.natAbs 1 s2.a s2.len s2.cap t2.a t2.len t2.cap s3.a s3.len s3.cap t3.a t3.len t3.cap W h2 h3 h4 h5 k1 k2 k3 one_big k5
set_option maxHeartbeats 400000 in
set_option maxRecDepth 20000 in
theorem radd_calls (N : Int) (D : Nat) (fn co fd : Int) (hD : 0 < D) (hN : N.natAbs < wp 33) (hDw : D < wp 33) (hv : vaB fn fd = true) (hc : co.natAbs < 9223372036854775808) (W : World) (s t s4 t4 : Sl) (h1 : NumAt W s (frI N D).natAbs) (h2 : NumAt W t (frd N D)) (h3 : NumAt W s4 (frI (fn * co) (fd.natAbs * 1)).natAbs) (h4 : NumAt W t4 (frd (fn * co) (fd.natAbs * 1))) :
    Calls Try.prog 41 #[.agg #[.bool (decide (frI N D < 0)), .slice s.a s.len s.cap, .slice t.a t.len t.cap], .agg #[.bool (decide (frI (fn * co) (fd.natAbs * 1) < 0)), .slice s4.a s4.len s4.cap, .slice t4.a t4.len t4.cap]] W (RBig W (N * (fd.natAbs : Nat) + co * fn * (D : Int)) (D * fd.natAbs)) := by
  obtain ⟨b1, b2, b3, b4⟩ := vaB_rng hv
  have hf : 0 < fd.natAbs * 1 := by omega
  have n1 : (fn * co).natAbs < wp 2 := by rw [Int.natAbs_mul]; exact wp_mul (wp_one (by omega)) (wp_one (by omega))
  have n2 : fd.natAbs * 1 < wp 1 := by rw [Nat.mul_one]; exact wp_one (by omega)
  have k1 : (frI N D).natAbs < 1000000000 ^ 100 := wp_big (frI_lt hN) (by omega)
  have k2 : frd N D < 1000000000 ^ 100 := wp_big (frd_lt hDw) (by omega)
  have k3 : (frI (fn * co) (fd.natAbs * 1)).natAbs < 1000000000 ^ 100 := wp_big (frI_lt n1) (by omega)
  have k4 : frd (fn * co) (fd.natAbs * 1) < 1000000000 ^ 100 := wp_big (frd_lt n2) (by omega)
  have k5 : 0 < frd N D * frd (fn * co) (fd.natAbs * 1) := Nat.mul_pos (frd_pos _ hD) (frd_pos _ hf)
  have hp := Plus_calls (frI N D) (frI (fn * co) (fd.natAbs * 1)) (frd N D) (frd (fn * co) (fd.natAbs * 1)) s.a s.len s.cap t.a t.len t.cap s4.a s4.len s4.cap t4.a t4.len t4.cap W h1 h2 h3 h4 k1 k2 k3 k4 k5
  clear k1 k2 k3 k4
  obtain ⟨e1, e2⟩ := fr_add N (fn * co) hD hf
  have e3 : N * ((fd.natAbs * 1 : Nat) : Int) + fn * co * (D : Int) = N * (fd.natAbs : Nat) + co * fn * (D : Int) := by rw [Nat.mul_one, Int.mul_comm fn co]
  have e4 : D * (fd.natAbs * 1) = D * fd.natAbs := by rw [Nat.mul_one]
  exact hp.mono fun e w' h => RBig.congr (e1.trans (congr (congrArg frI e3) e4)) (e2.trans (congr (congrArg frd e3) e4)) h
theorem rskip (N : Int) (D : Nat) (fn co : Int) (f : Nat) (hD : 0 < D) (hf : 0 < f) (h : fn = 0 ∨ co = 0) : frI (N * f + co * fn * (D : Int)) (D * f) = frI N D ∧ frd (N * f + co * fn * (D : Int)) (D * f) = frd N D := by
  have e : co * fn = 0 := by rcases h with rfl | rfl <;> simp
  rw [e, Int.zero_mul, Int.add_zero, Int.mul_comm N, Nat.mul_comm D]
  exact fr_scale hf N hD
/-- Where the reference's sum lies. -/
def RTotAt (w0 : World) (b : Nat) (N : Int) (D : Nat) (wr : World) : Prop := ∃ s t : Sl, wr.heap[b]? = some (.cells #[.bool (decide (frI N D < 0)), .slice s.a s.len s.cap, .slice t.a t.len t.cap] 67) ∧ NumAt wr s (frI N D).natAbs ∧ NumAt wr t (frd N D) ∧ w0.heap.size ≤ b ∧ Below w0.heap.size w0 wr
theorem RTotAt.mk' {w0 W : World} {b : Nat} {N : Int} {D : Nat} {x : Bool} {s t : Sl} {a a' : Option Addr} {n c n' c' : Nat} (hT : W.heap[b]? = some (.cells #[.bool x, .slice a n c, .slice a' n' c'] 67)) (hbb : w0.heap.size ≤ b) (hs : NumAt W s (frI N D).natAbs) (ht : NumAt W t (frd N D)) (hb : Below w0.heap.size w0 W) :
    RTotAt w0 b N D (((W.setCell ⟨b, 0, none⟩ (.bool (decide (frI N D < 0)))).setCell ⟨b, 1, none⟩ (.slice s.a s.len s.cap)).setCell ⟨b, 2, none⟩ (.slice t.a t.len t.cap)) := by
  refine ⟨s, t, ?_, NumAt.store3 hs hT _ _ _, NumAt.store3 ht hT _ _ _, hbb, below3 hb hbb _ _ _⟩
  rw [heap_setCell_same _ _ _ _ _ _ (heap_setCell_same _ _ _ _ _ _ (heap_setCell_same _ _ _ _ _ _ hT))]
  simp
theorem RTotAt.scale {w0 wr : World} {b : Nat} {N N' : Int} {D D' : Nat} (h1 : frI N' D' = frI N D) (h2 : frd N' D' = frd N D) (h : RTotAt w0 b N D wr) : RTotAt w0 b N' D' wr := by
  obtain ⟨s, t, a1, a2, a3, a4, a5⟩ := h
  exact ⟨s, t, by rw [h1]; exact a1, by rw [h1]; exact a2, by rw [h2]; exact a3, a4, a5⟩
set_option maxHeartbeats 400000 in
set_option maxRecDepth 20000 in
theorem rlast_calls (N rt : Int) (D : Nat) (hD : 0 < D) (hN : N.natAbs < wp 33) (hDw : D < wp 33) (hr : rt.natAbs < 9223372036854775808) (W : World) (s t s2 t2 : Sl) (h1 : NumAt W s (frI N D).natAbs) (h2 : NumAt W t (frd N D)) (h3 : NumAt W s2 (-rt).natAbs) (h4 : NumAt W t2 1) :
    Calls Try.prog 41 #[.agg #[.bool (decide (frI N D < 0)), .slice s.a s.len s.cap, .slice t.a t.len t.cap], .agg #[.bool (decide (-rt < 0)), .slice s2.a s2.len s2.cap, .slice t2.a t2.len t2.cap]] W (RBig W (frI N D * ((1 : Nat) : Int) + -rt * (frd N D : Int)) (frd N D * 1)) := by
  have k1 : (frI N D).natAbs < 1000000000 ^ 100 := wp_big (frI_lt hN) (by omega)
  have k2 : frd N D < 1000000000 ^ 100 := wp_big (frd_lt hDw) (by omega)
  have k3 : (-rt).natAbs < 1000000000 ^ 100 := big_nat (by omega)
  have k5 : 0 < frd N D * 1 := Nat.mul_pos (frd_pos _ hD) (by decide)
  exact Plus_calls (frI N D) (-rt) (frd N D) 1 s.a s.len s.cap t.a t.len t.cap s2.a s2.len s2.cap t2.a t2.len t2.cap W h1 h2 h3 h4 k1 k2 k3 one_big k5
set_option maxHeartbeats 400000 in
set_option maxRecDepth 20000 in
theorem rsign_calls (N rt : Int) (D : Nat) (hD : 0 < D) (W : World) (s t : Sl) (h : NumAt W s (frI (frI N D * ((1 : Nat) : Int) + -rt * (frd N D : Int)) (frd N D * 1)).natAbs) :
    Calls Try.prog 40 #[.agg #[.bool (decide (frI (frI N D * ((1 : Nat) : Int) + -rt * (frd N D : Int)) (frd N D * 1) < 0)), .slice s.a s.len s.cap, .slice t.a t.len t.cap]] W fun e w' => ∃ r, e = .returned (.int .i64 r) ∧ (r != 0) = (!decide (N = rt * D)) ∧ Cls W w' := by
  refine (Sign_calls _ s.a s.len s.cap t.a t.len t.cap W h).mono fun e w' ⟨he, hc⟩ => ⟨_, he, ?_, hc⟩
  have hd := frd_pos N hD
  rw [sign_fr _ (Nat.mul_pos hd (by omega)), show ((1 : Nat) : Int) = 1 from rfl, Int.mul_one, Int.neg_mul, cmpI_sub, cmp_zero]
  congr 1
  rw [Bool.eq_iff_iff, decide_eq_true_iff, decide_eq_true_iff]
  have e := fr_cross' N D
  constructor
  · intro h1
    rw [h1] at e
    have : (frd N D : Int) * (rt * D) = (frd N D : Int) * N := by rw [Int.mul_comm _ N, ← e]; ac_rfl
    exact (Int.eq_of_mul_eq_mul_left (by omega) this).symm
  · intro h1
    rw [h1] at e ⊢
    have : (D : Int) * frI (rt * D) D = (D : Int) * (rt * (frd (rt * D) D : Int)) := by rw [Int.mul_comm _ (frI _ _), e]; ac_rfl
    exact Int.eq_of_mul_eq_mul_left (by omega) this
end Go.Proofs.Ythbdkhmgopahbaa
