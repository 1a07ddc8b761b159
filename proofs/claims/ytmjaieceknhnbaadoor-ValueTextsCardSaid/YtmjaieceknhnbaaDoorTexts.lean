/-
  The texts of numbers: the decimal numeral of a valid number is read back as it was, by strconv's rule and by the reference's. Nothing of the program is imported.
-/
import Derived.Lib.ItoaNum
import Derived.Lib.ParseIntB
namespace Go.Proofs.YtmjaieceknhnbaaDoor
open Go Go.Lib

/-- A digit's byte. -/
def isDig (c : UInt8) : Prop := 48 ≤ c.toNat ∧ c.toNat ≤ 57
/-- The number that digits spell, behind what was spelled before. -/
def spell (acc : Nat) (l : List UInt8) : Nat := l.foldl (fun a c => a * 10 + (c.toNat - 48)) acc
theorem spell_nil (acc : Nat) : spell acc [] = acc := rfl
theorem spell_cons (acc : Nat) (c : UInt8) (r : List UInt8) : spell acc (c :: r) = spell (acc * 10 + (c.toNat - 48)) r := by simp only [spell, List.foldl_cons]
theorem spell_append (acc : Nat) (l m : List UInt8) : spell acc (l ++ m) = spell (spell acc l) m := List.foldl_append ..
theorem dig_toNat {i : Nat} (h : i < 10) : (UInt8.ofNat (48 + i)).toNat = 48 + i := by
  have hd : ∀ j : Fin 10, (UInt8.ofNat (48 + j.val)).toNat = 48 + j.val := by decide
  exact hd ⟨i, h⟩
theorem decDigits_dig (u : Nat) : ∀ c ∈ decDigits u, isDig c := by
  induction u using Nat.strongRecOn with
  | _ u ih =>
    intro c hc
    rw [decDigits] at hc
    split at hc
    · simp only [List.mem_singleton] at hc
      subst hc
      rename_i h
      unfold isDig
      rw [dig_toNat h]; omega
    · rename_i h
      rw [List.mem_append, List.mem_singleton] at hc
      rcases hc with hc | rfl
      · exact ih _ (by omega) c hc
      · unfold isDig
        rw [dig_toNat (by omega)]; omega
theorem spell_dec (u : Nat) : spell 0 (decDigits u) = u := by
  induction u using Nat.strongRecOn with
  | _ u ih =>
    rw [decDigits]
    split
    · rename_i h
      simp only [spell_cons, spell_nil]
      rw [dig_toNat h]; omega
    · rename_i h
      rw [spell_append, ih _ (by omega)]
      simp only [spell_cons, spell_nil]
      rw [dig_toNat (by omega)]; omega
theorem decDigits_ne (u : Nat) : decDigits u ≠ [] := by
  rw [decDigits]; split <;> simp
theorem decDigits_inj {u v : Nat} (h : decDigits u = decDigits v) : u = v := by
  rw [← spell_dec u, h, spell_dec]
theorem head_dig {u : Nat} {c : UInt8} {r : List UInt8} (h : decDigits u = c :: r) : isDig c := decDigits_dig u c (by rw [h]; exact List.mem_cons_self ..)
theorem itoa_inj {n m : Int} (h : itoa n = itoa m) : n = m := by
  unfold itoa at h
  split at h <;> split at h
  · have := decDigits_inj (List.cons.inj h).2; omega
  · have := head_dig h.symm; unfold isDig at this; simp at this
  · have := head_dig h; unfold isDig at this; simp at this
  · have := decDigits_inj h; omega

/-! ### strconv's rule -/
theorem spell_ge (acc : Nat) (l : List UInt8) : acc ≤ spell acc l := by
  induction l generalizing acc with
  | nil => exact Nat.le_refl _
  | cons c r ih => rw [spell_cons]; exact Nat.le_trans (by omega) (ih _)
theorem parseUintM_spell (M : Nat) (hM : M ≤ 1844674407370955162) : ∀ (l : List UInt8) (acc : Nat), (∀ c ∈ l, isDig c) → spell acc l < M → parseUintM M acc l = .ok (spell acc l)
  | [], acc, _, _ => rfl
  | c :: r, acc, hd, hs => by
    have h1 := spell_ge (acc * 10 + (c.toNat - 48)) r
    simp only [spell_cons] at hs
    simp only [parseUintM, spell_cons]
    rw [if_pos (show 48 ≤ c.toNat ∧ c.toNat ≤ 57 from hd c (List.mem_cons_self ..)), if_neg (by omega), if_neg (by omega)]
    exact parseUintM_spell M hM r _ (fun x hx => hd x (List.mem_cons_of_mem _ hx)) hs
theorem parseUintM_mono {M M' : Nat} (h : M ≤ M') : ∀ (l : List UInt8) (acc u : Nat), parseUintM M acc l = .ok u → parseUintM M' acc l = .ok u
  | [], _, _, h => h
  | c :: r, acc, u, hh => by
    simp only [parseUintM] at hh ⊢
    split at hh
    · rename_i h1
      rw [if_pos h1]
      split at hh
      · cases hh
      · rename_i h2
        rw [if_neg h2]
        split at hh
        · cases hh
        · rename_i h3
          rw [if_neg (by omega)]
          exact parseUintM_mono h r _ u hh
    · cases hh
theorem parseUintB_dec {u : Nat} (h : u ≤ 1000000000000) : parseUintB 64 (decDigits u) = .ok u := by
  unfold parseUintB
  rw [if_neg (decDigits_ne u)]
  refine parseUintM_mono (M := 1000000000001) (by decide) _ _ _ ?_
  have := parseUintM_spell 1000000000001 (by decide) (decDigits u) 0 (decDigits_dig u) (by rw [spell_dec]; omega)
  rw [spell_dec] at this
  exact this
theorem parseInt_itoa {n : Int} (h : -1000000000000 ≤ n ∧ n ≤ 1000000000000) : parseIntB 64 (itoa n) = .ok n := by
  unfold itoa
  split
  · rename_i hn
    have hp := parseUintB_dec (u := n.natAbs) (by omega)
    simp only [parseIntB]
    rw [if_pos (by right; rfl), hp]
    simp only [show (45 : UInt8).toNat = 45 from rfl, not_true, false_and, if_false, true_and, if_true]
    rw [if_neg (by have : (2 : Nat) ^ (64 - 1) = 9223372036854775808 := rfl; omega)]
    congr 1
    omega
  · rename_i hn
    have hp := parseUintB_dec (u := n.toNat) (by omega)
    cases hd : decDigits n.toNat with
    | nil => exact absurd hd (decDigits_ne _)
    | cons c r =>
      have hc := head_dig hd
      unfold isDig at hc
      rw [hd] at hp
      simp only [parseIntB]
      rw [if_neg (by omega), hp]
      simp only [show ¬ c.toNat = 45 by omega, not_false_eq_true, true_and, false_and, if_false]
      rw [if_neg (by have : (2 : Nat) ^ (64 - 1) = 9223372036854775808 := rfl; omega)]
      congr 1
      omega

/-! ### The reference's rule: the digits one after the other, and whether there is a minus sign -/
def refNum : Int → List UInt8 → Int
  | acc, [] => acc
  | acc, c :: r => refNum (if 48 ≤ c.toNat ∧ c.toNat ≤ 57 then 10 * acc + ((c.toNat - 48 : Nat) : Int) else acc) r
def refNeg (l : List UInt8) : Bool := l.any fun c => c.toNat == 45
def refInt (l : List UInt8) : Int := if refNeg l = true then -refNum 0 l else refNum 0 l
theorem refNum_spell : ∀ (l : List UInt8) (acc : Nat), (∀ c ∈ l, isDig c) → refNum acc l = spell acc l
  | [], acc, _ => rfl
  | c :: r, acc, hd => by
    have hc := hd c (List.mem_cons_self ..)
    simp only [refNum, spell_cons]
    unfold isDig at hc
    rw [if_pos hc]
    have := refNum_spell r (acc * 10 + (c.toNat - 48)) (fun x hx => hd x (List.mem_cons_of_mem _ hx))
    rw [← this]
    congr 1
    omega
theorem refNeg_dig {l : List UInt8} (h : ∀ c ∈ l, isDig c) : refNeg l = false := by
  unfold refNeg
  rw [List.any_eq_false]
  intro c hc
  have := h c hc
  unfold isDig at this
  simp; omega
theorem refInt_itoa (n : Int) : refInt (itoa n) = n := by
  unfold itoa
  split
  · rename_i hn
    have h1 : refNeg (45 :: decDigits n.natAbs) = true := by simp [refNeg]
    unfold refInt
    rw [if_pos h1]
    simp only [refNum]
    rw [if_neg (by decide)]
    have := refNum_spell (decDigits n.natAbs) 0 (decDigits_dig _)
    rw [spell_dec] at this
    rw [show (0 : Int) = ((0 : Nat) : Int) from rfl, this]
    omega
  · rename_i hn
    unfold refInt
    rw [if_neg (by rw [refNeg_dig (decDigits_dig _)]; exact Bool.false_ne_true)]
    have := refNum_spell (decDigits n.toNat) 0 (decDigits_dig _)
    rw [spell_dec] at this
    rw [show (0 : Int) = ((0 : Nat) : Int) from rfl, this]
    omega
theorem itoa_len {n : Int} (h : -1000000000000 ≤ n ∧ n ≤ 1000000000000) : (itoa n).length ≤ 14 := by
  have key : ∀ u : Nat, u ≤ 1000000000000 → nDigits u ≤ 13 := fun u hu => by
    rcases Nat.lt_or_ge 13 (nDigits u) with h' | h'
    · have hk : ∀ k, nDigits u = k + 1 → 10 ^ k ≤ u ∨ k = 0 := fun k hk => by
        rcases Nat.eq_zero_or_pos k with h0 | h0
        · exact .inr h0
        · left
          rcases Nat.lt_or_ge u (10 ^ k) with hlt | hge
          · exfalso
            have : nDigits u ≤ k := by
              have hmono : ∀ j v, v < 10 ^ j → 1 ≤ j → nDigits v ≤ j := by
                intro j
                induction j with
                | zero => intro v _ h; omega
                | succ j ih =>
                  intro v hv _
                  by_cases hs : v < 10
                  · rw [nDigits_small hs]; omega
                  · rw [nDigits_big hs]
                    rcases Nat.eq_zero_or_pos j with hj | hj
                    · subst hj; omega
                    · have := ih (v / 10) (by rw [Nat.pow_succ] at hv; omega) hj
                      omega
              exact hmono k u hlt h0
            omega
          · exact hge
      have h2 := hk (nDigits u - 1) (by omega)
      rcases h2 with h2 | h2
      · have h3 : 10 ^ 13 ≤ 10 ^ (nDigits u - 1) := Nat.pow_le_pow_right (by decide) (by omega)
        have : (10 : Nat) ^ 13 = 10000000000000 := rfl
        omega
      · omega
    · exact h'
  unfold itoa
  split
  · rw [List.length_cons, decDigits_length]
    have := key n.natAbs (by omega)
    omega
  · rw [decDigits_length]
    have := key n.toNat (by omega)
    omega
end Go.Proofs.YtmjaieceknhnbaaDoor
