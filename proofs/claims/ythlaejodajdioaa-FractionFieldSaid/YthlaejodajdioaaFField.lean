/-
  Sums and products of small fractions obey the laws of a field: the plain numbers.
-/
import Derived.Test.YthlaejodajdioaaFOps
set_option linter.unusedVariables false
namespace Go.Proofs.Ythlaejodajdioaa
open Go Go.RowKit Go.Deep
theorem fr_cross (N : Int) (D : Nat) : frI N D * D = N * frd N D := by
  have h1 := frI_mul N D
  have h2 := frd_mul N D
  generalize frI N D = v at *
  generalize frd N D = d at *
  generalize Nat.gcd N.natAbs D = g at *
  rw [← h1, ← h2, Int.natCast_mul]
  ac_rfl
theorem frI_le (N : Int) (D : Nat) : (frI N D).natAbs ≤ N.natAbs := by rw [frI_abs]; exact Nat.div_le_self _ _
theorem frd_le (N : Int) (D : Nat) : frd N D ≤ D := Nat.div_le_self _ _
theorem fr_va {N : Int} {D : Nat} (hD : 0 < D) (h1 : (frI N D).natAbs ≤ 100000000000000000) (h2 : frd N D ≤ 100000000000000000) : vaB (frI N D) (frd N D) = true := by
  have h3 := fr_coprime N hD
  have h4 := frd_pos N hD
  unfold vaB rngB
  simp
  refine ⟨⟨⟨⟨?_, ?_⟩, ?_⟩, ?_⟩, ?_⟩ <;> first | exact h3 | omega
theorem abs_mul_le {a b : Int} {x y : Nat} (h1 : a.natAbs ≤ x) (h2 : b.natAbs ≤ y) : (a * b).natAbs ≤ x * y := by
  rw [Int.natAbs_mul]; exact Nat.mul_le_mul h1 h2
/-- One more way to have the sum over the common denominator. -/
theorem field_right {n0 n1 n2 p q L M A B C E d0 d1 d2 : Int} (h0 : d0 ≠ 0) (h1 : d1 ≠ 0) (h2 : d2 ≠ 0) (hq : q ≠ 0)
    (e1 : p * (d0 * d1) = (n0 * d1 + n1 * d0) * q) (e2 : L * (q * d2) = p * n2 * M) (e3 : A * (d0 * d2) = n0 * n2 * B) (e4 : C * (d1 * d2) = n1 * n2 * E) :
    (A * E + C * B) * M = L * (B * E) := by
  have hK : q * (d0 * (d1 * d2)) ≠ 0 := Int.mul_ne_zero hq (Int.mul_ne_zero h0 (Int.mul_ne_zero h1 h2))
  refine Int.eq_of_mul_eq_mul_left hK ?_
  have a1 : q * (d0 * (d1 * d2)) * ((A * E + C * B) * M) = q * M * ((A * (d0 * d2)) * (d1 * E) + (C * (d1 * d2)) * (d0 * B)) := by
    simp only [Int.mul_add, Int.add_mul]; congr 1 <;> ac_rfl
  rw [a1, e3, e4]
  have a2 : q * M * (n0 * n2 * B * (d1 * E) + n1 * n2 * E * (d0 * B)) = M * n2 * B * E * ((n0 * d1 + n1 * d0) * q) := by
    simp only [Int.mul_add, Int.add_mul]; congr 1 <;> ac_rfl
  rw [a2, ← e1]
  have a3 : M * n2 * B * E * (p * (d0 * d1)) = (p * n2 * M) * (B * E * (d0 * d1)) := by ac_rfl
  rw [a3, ← e2]
  ac_rfl
theorem field_back {n0 n1 p q d0 d1 : Int} (e1 : p * (d0 * d1) = (n0 * d1 + n1 * d0) * q) : (p * d1 + -n1 * q) * d0 = n0 * (q * d1) := by
  have a : (p * d1 + -n1 * q) * d0 = p * (d0 * d1) - n1 * d0 * q := by
    rw [Int.add_mul, Int.neg_mul, Int.neg_mul, ← Int.sub_eq_add_neg]; congr 1 <;> ac_rfl
  rw [a, e1, Int.add_mul, show n0 * d1 * q + n1 * d0 * q - n1 * d0 * q = n0 * d1 * q by omega]
  ac_rfl
theorem field_div {n0 n1 x y d0 d1 : Int} (e : x * (d0 * (n1.natAbs : Nat)) = n0 * (if n1 < 0 then -d1 else d1) * y) : x * n1 * d0 = n0 * (y * d1) := by
  by_cases h : n1 < 0
  · rw [if_pos h, show ((n1.natAbs : Nat) : Int) = -n1 by omega] at e
    have e' : -(x * n1 * d0) = -(n0 * (y * d1)) := by
      rw [show -(x * n1 * d0) = x * (d0 * -n1) by rw [Int.mul_neg, Int.mul_neg]; congr 1; ac_rfl, e, Int.mul_neg, Int.neg_mul]
      congr 1; ac_rfl
    omega
  · rw [if_neg h, show ((n1.natAbs : Nat) : Int) = n1 by omega] at e
    rw [show x * n1 * d0 = x * (d0 * n1) by ac_rfl, e]
    ac_rfl
/-- An operation on two fractions gives r, whatever the world. -/
def Op2 (f : Nat) (n d n' d' : Int) (r : Value) : Prop := ∀ W : World, Calls Try.prog f #[.agg #[.int .i64 n, .int .i64 d], .agg #[.int .i64 n', .int .i64 d']] W fun e w' => e = .returned r ∧ Cls W w'
theorem rsV_fit {ok : Bool} {N : Int} {D : Nat} {v d : Int} (ho : ok = true) (h1 : frI N D = v) (h2 : (frd N D : Int) = d) (h3 : v.natAbs ≤ 100000000000000000) (h4 : d ≤ 100000000000000000) : rsV ok N D = .tuple #[.agg #[.int .i64 v, .int .i64 d], .int .i64 0] := by
  subst ho
  rw [rsV_ok, frV_ok (by rw [h1]; exact h3) (by omega), h1, h2]
theorem va_in {n d : Int} (h : vaB n d = true) : In64 n ∧ In64 d := by
  obtain ⟨h1, h2, h3, h4⟩ := vaB_rng h
  unfold In64
  omega
theorem Add_op {n d n' d' v e : Int} (h : vaB n d = true) (h' : vaB n' d' = true) (h1 : frI (n * d' + n' * d) (d.natAbs * d'.natAbs) = v) (h2 : (frd (n * d' + n' * d) (d.natAbs * d'.natAbs) : Int) = e) (h3 : v.natAbs ≤ 100000000000000000) (h4 : e ≤ 100000000000000000) :
    Op2 7 n d n' d' (.tuple #[.agg #[.int .i64 v, .int .i64 e], .int .i64 0]) := fun W => by
  have := Add_calls n d n' d' W (va_in h).1 (va_in h).2 (va_in h').1 (va_in h').2
  rwa [rsV_fit (by rw [h, h']; rfl) h1 h2 h3 h4] at this
theorem Sub_op {n d n' d' v e : Int} (h : vaB n d = true) (h' : vaB n' d' = true) (h1 : frI (n * d' + -n' * d) (d.natAbs * d'.natAbs) = v) (h2 : (frd (n * d' + -n' * d) (d.natAbs * d'.natAbs) : Int) = e) (h3 : v.natAbs ≤ 100000000000000000) (h4 : e ≤ 100000000000000000) :
    Op2 11 n d n' d' (.tuple #[.agg #[.int .i64 v, .int .i64 e], .int .i64 0]) := fun W => by
  have := Sub_calls n d n' d' W (va_in h).1 (va_in h).2 (va_in h').1 (va_in h').2
  rwa [rsV_fit (by rw [h, h']; rfl) h1 h2 h3 h4] at this
theorem Mul_op {n d n' d' v e : Int} (h : vaB n d = true) (h' : vaB n' d' = true) (h1 : frI (n * n') (d.natAbs * d'.natAbs) = v) (h2 : (frd (n * n') (d.natAbs * d'.natAbs) : Int) = e) (h3 : v.natAbs ≤ 100000000000000000) (h4 : e ≤ 100000000000000000) :
    Op2 13 n d n' d' (.tuple #[.agg #[.int .i64 v, .int .i64 e], .int .i64 0]) := fun W => by
  have := Mul_calls n d n' d' W (va_in h).1 (va_in h).2 (va_in h').1 (va_in h').2
  rwa [rsV_fit (by rw [h, h']; rfl) h1 h2 h3 h4] at this
theorem Div_op {n d n' d' v e : Int} (h : vaB n d = true) (h' : vaB n' d' = true) (h0 : n' ≠ 0) (h1 : frI (n * (if n' < 0 then -d' else d')) (d.natAbs * n'.natAbs) = v) (h2 : (frd (n * (if n' < 0 then -d' else d')) (d.natAbs * n'.natAbs) : Int) = e) (h3 : v.natAbs ≤ 100000000000000000) (h4 : e ≤ 100000000000000000) :
    Op2 15 n d n' d' (.tuple #[.agg #[.int .i64 v, .int .i64 e], .int .i64 0]) := fun W => by
  have := Div_calls n d n' d' W (va_in h).1 (va_in h).2 (va_in h').1 (va_in h').2
  rwa [rsV_fit (by rw [h, h']; simpa using h0) h1 h2 h3 h4] at this
theorem Div_none {n d n' d' : Int} (h : vaB n d = true) (h' : vaB n' d' = true) (h0 : n' = 0) :
    Op2 15 n d n' d' (.tuple #[.agg #[.int .i64 0, .int .i64 0], .int .i64 1]) := fun W => by
  have := Div_calls n d n' d' W (va_in h).1 (va_in h).2 (va_in h').1 (va_in h').2
  rwa [show (vaB n d && vaB n' d' && !(n' == 0)) = false by rw [h, h', h0]; rfl, rsV_no] at this
set_option maxHeartbeats 4000000 in
/-- What the law's sums and products come to. -/
theorem field_facts (n0 n1 n2 : Int) (d0 d1 d2 : Nat) (h0 : vaB n0 d0 = true) (h1 : vaB n1 d1 = true) (h2 : vaB n2 d2 = true)
    (k0 : n0.natAbs ≤ 32768 ∧ d0 ≤ 32768) (k1 : n1.natAbs ≤ 32768 ∧ d1 ≤ 32768) (k2 : n2.natAbs ≤ 32768 ∧ d2 ≤ 32768) :
    ∃ p q L M A B C E X Y : Int,
      Op2 7 n0 d0 n1 d1 (.tuple #[.agg #[.int .i64 p, .int .i64 q], .int .i64 0]) ∧
      Op2 13 p q n2 d2 (.tuple #[.agg #[.int .i64 L, .int .i64 M], .int .i64 0]) ∧
      Op2 13 n0 d0 n2 d2 (.tuple #[.agg #[.int .i64 A, .int .i64 B], .int .i64 0]) ∧
      Op2 13 n1 d1 n2 d2 (.tuple #[.agg #[.int .i64 C, .int .i64 E], .int .i64 0]) ∧
      Op2 7 A B C E (.tuple #[.agg #[.int .i64 L, .int .i64 M], .int .i64 0]) ∧
      Op2 11 p q n1 d1 (.tuple #[.agg #[.int .i64 n0, .int .i64 d0], .int .i64 0]) ∧
      ((n1 = 0 ∧ Op2 15 n0 d0 n1 d1 (.tuple #[.agg #[.int .i64 0, .int .i64 0], .int .i64 1])) ∨
       (n1 ≠ 0 ∧ Op2 15 n0 d0 n1 d1 (.tuple #[.agg #[.int .i64 X, .int .i64 Y], .int .i64 0]) ∧ Op2 13 X Y n1 d1 (.tuple #[.agg #[.int .i64 n0, .int .i64 d0], .int .i64 0]))) := by
  obtain ⟨r0, _, _, _⟩ := vaB_rng h0
  obtain ⟨r1, _, _, _⟩ := vaB_rng h1
  obtain ⟨r2, _, _, _⟩ := vaB_rng h2
  have g0 := vaB_gcd h0
  have g1 := vaB_gcd h1
  rw [Int.natAbs_natCast] at g0 g1
  have D01 : 0 < d0 * d1 := Nat.mul_pos (by omega) (by omega)
  have D02 : 0 < d0 * d2 := Nat.mul_pos (by omega) (by omega)
  have D12 : 0 < d1 * d2 := Nat.mul_pos (by omega) (by omega)
  have b01 : d0 * d1 ≤ 32768 * 32768 := Nat.mul_le_mul k0.2 k1.2
  have b02 : d0 * d2 ≤ 32768 * 32768 := Nat.mul_le_mul k0.2 k2.2
  have b12 : d1 * d2 ≤ 32768 * 32768 := Nat.mul_le_mul k1.2 k2.2
  have s01 : (n0 * d1).natAbs ≤ 32768 * 32768 := abs_mul_le k0.1 (by rw [Int.natAbs_natCast]; exact k1.2)
  have s10 : (n1 * d0).natAbs ≤ 32768 * 32768 := abs_mul_le k1.1 (by rw [Int.natAbs_natCast]; exact k0.2)
  have s02 : (n0 * n2).natAbs ≤ 32768 * 32768 := abs_mul_le k0.1 k2.1
  have s12 : (n1 * n2).natAbs ≤ 32768 * 32768 := abs_mul_le k1.1 k2.1
  have sS : (n0 * d1 + n1 * d0).natAbs ≤ 2147483648 := by omega
  -- the sum
  obtain ⟨p, hp⟩ : ∃ p, frI (n0 * d1 + n1 * d0) (d0 * d1) = p := ⟨_, rfl⟩
  obtain ⟨q, hq⟩ : ∃ q, frd (n0 * d1 + n1 * d0) (d0 * d1) = q := ⟨_, rfl⟩
  have xp := frI_le (n0 * d1 + n1 * d0) (d0 * d1)
  have xq := frd_le (n0 * d1 + n1 * d0) (d0 * d1)
  have vp := fr_va (N := n0 * d1 + n1 * d0) D01 (by omega) (by omega)
  have ep := fr_cross (n0 * d1 + n1 * d0) (d0 * d1)
  have zq := frd_pos (n0 * d1 + n1 * d0) D01
  rw [hp] at xp vp ep
  rw [hq] at xq vp ep zq
  have Dq2 : 0 < q * d2 := Nat.mul_pos zq (by omega)
  have bq2 : q * d2 ≤ 1073741824 * 32768 := Nat.mul_le_mul (by omega) k2.2
  have sp2 : (p * n2).natAbs ≤ 2147483648 * 32768 := abs_mul_le (by omega) k2.1
  -- the left side
  obtain ⟨L, hL⟩ : ∃ L, frI (p * n2) (q * d2) = L := ⟨_, rfl⟩
  obtain ⟨M, hM⟩ : ∃ M, frd (p * n2) (q * d2) = M := ⟨_, rfl⟩
  have xL := frI_le (p * n2) (q * d2)
  have xM := frd_le (p * n2) (q * d2)
  have eL := fr_cross (p * n2) (q * d2)
  have zM := frd_pos (p * n2) Dq2
  have cL := fr_coprime (p * n2) Dq2
  rw [hL] at xL eL cL
  rw [hM] at xM eL zM cL
  -- the two products
  obtain ⟨A, hA⟩ : ∃ A, frI (n0 * n2) (d0 * d2) = A := ⟨_, rfl⟩
  obtain ⟨B, hB⟩ : ∃ B, frd (n0 * n2) (d0 * d2) = B := ⟨_, rfl⟩
  have xA := frI_le (n0 * n2) (d0 * d2)
  have xB := frd_le (n0 * n2) (d0 * d2)
  have vA := fr_va (N := n0 * n2) D02 (by omega) (by omega)
  have eA := fr_cross (n0 * n2) (d0 * d2)
  have zB := frd_pos (n0 * n2) D02
  rw [hA] at xA vA eA
  rw [hB] at xB vA eA zB
  obtain ⟨C, hC⟩ : ∃ C, frI (n1 * n2) (d1 * d2) = C := ⟨_, rfl⟩
  obtain ⟨E, hE⟩ : ∃ E, frd (n1 * n2) (d1 * d2) = E := ⟨_, rfl⟩
  have xC := frI_le (n1 * n2) (d1 * d2)
  have xE := frd_le (n1 * n2) (d1 * d2)
  have vC := fr_va (N := n1 * n2) D12 (by omega) (by omega)
  have eC := fr_cross (n1 * n2) (d1 * d2)
  have zE := frd_pos (n1 * n2) D12
  rw [hC] at xC vC eC
  rw [hE] at xE vC eC zE
  rw [Int.natCast_mul] at ep eL eA eC
  have hR := fr_unique (N := A * E + C * B) (D := B * E) (Nat.mul_pos zB zE) zM cL (by
    rw [Int.natCast_mul]
    exact field_right (by omega) (by omega) (by omega) (by omega) ep eL eA eC)
  have hS := fr_unique (N := p * d1 + -n1 * q) (D := q * d1) (Nat.mul_pos zq (by omega)) (by omega) g0 (by
    rw [Int.natCast_mul]
    exact field_back ep)
  have P1 : Op2 7 n0 d0 n1 d1 (.tuple #[.agg #[.int .i64 p, .int .i64 (q : Nat)], .int .i64 0]) := Add_op h0 h1 hp (by simp only [Int.natAbs_natCast]; rw [hq]) (by omega) (by omega)
  have P2 : Op2 13 p (q : Nat) n2 d2 (.tuple #[.agg #[.int .i64 L, .int .i64 (M : Nat)], .int .i64 0]) := Mul_op vp h2 hL (by simp only [Int.natAbs_natCast]; rw [hM]) (by omega) (by omega)
  have P3 : Op2 13 n0 d0 n2 d2 (.tuple #[.agg #[.int .i64 A, .int .i64 (B : Nat)], .int .i64 0]) := Mul_op h0 h2 hA (by simp only [Int.natAbs_natCast]; rw [hB]) (by omega) (by omega)
  have P4 : Op2 13 n1 d1 n2 d2 (.tuple #[.agg #[.int .i64 C, .int .i64 (E : Nat)], .int .i64 0]) := Mul_op h1 h2 hC (by simp only [Int.natAbs_natCast]; rw [hE]) (by omega) (by omega)
  have P5 : Op2 7 A (B : Nat) C (E : Nat) (.tuple #[.agg #[.int .i64 L, .int .i64 (M : Nat)], .int .i64 0]) := Add_op vA vC hR.1 (by simp only [Int.natAbs_natCast]; rw [hR.2]) (by omega) (by omega)
  have P6 : Op2 11 p (q : Nat) n1 d1 (.tuple #[.agg #[.int .i64 n0, .int .i64 d0], .int .i64 0]) := Sub_op vp h1 hS.1 (by simp only [Int.natAbs_natCast]; rw [hS.2]) (by omega) (by omega)
  by_cases hn : n1 = 0
  · exact ⟨p, q, L, M, A, B, C, E, 0, 0, P1, P2, P3, P4, P5, P6, .inl ⟨hn, Div_none h0 h1 hn⟩⟩
  · have D0n : 0 < d0 * n1.natAbs := Nat.mul_pos (by omega) (by omega)
    have b0n : d0 * n1.natAbs ≤ 32768 * 32768 := Nat.mul_le_mul k0.2 k1.1
    have s0s : (n0 * (if n1 < 0 then -(d1 : Int) else d1)).natAbs ≤ 32768 * 32768 := abs_mul_le k0.1 (by split <;> simp <;> omega)
    obtain ⟨T, hT⟩ : ∃ T, n0 * (if n1 < 0 then -(d1 : Int) else d1) = T := ⟨_, rfl⟩
    obtain ⟨X, hX⟩ : ∃ X, frI T (d0 * n1.natAbs) = X := ⟨_, rfl⟩
    obtain ⟨Y, hY⟩ : ∃ Y, frd T (d0 * n1.natAbs) = Y := ⟨_, rfl⟩
    rw [hT] at s0s
    have xX := frI_le T (d0 * n1.natAbs)
    have xY := frd_le T (d0 * n1.natAbs)
    have vX := fr_va (N := T) D0n (by omega) (by omega)
    have eX := fr_cross T (d0 * n1.natAbs)
    have zY := frd_pos T D0n
    rw [hX] at xX vX eX
    rw [hY] at xY vX eX zY
    rw [Int.natCast_mul, ← hT] at eX
    have hD := fr_unique (N := X * n1) (D := Y * d1) (Nat.mul_pos zY (by omega)) (by omega) g0 (by
      rw [Int.natCast_mul]
      exact field_div eX)
    exact ⟨p, q, L, M, A, B, C, E, X, Y, P1, P2, P3, P4, P5, P6, .inr ⟨hn, Div_op h0 h1 hn (by rw [hT, Int.natAbs_natCast]; exact hX) (by rw [hT, Int.natAbs_natCast, hY]) (by omega) (by omega), Mul_op vX h1 hD.1 (by simp only [Int.natAbs_natCast]; rw [hD.2]) (by omega) (by omega)⟩⟩
end Go.Proofs.Ythlaejodajdioaa
