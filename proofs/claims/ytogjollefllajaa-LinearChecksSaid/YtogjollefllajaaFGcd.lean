/-
  The reference's numbers: greatest common divisors; which fractions are valid.
-/
import Derived.Test.YtogjollefllajaaFDiv
set_option linter.unusedVariables false
namespace Go.Proofs.Ytogjollefllajaa
open Go Go.RowKit Go.Deep
def celN (w : World) (a : Option Addr) (i : Nat) : Nat :=
  match a with
  | some ⟨b, off, none⟩ => (match w.cell? ⟨b, off + i, none⟩ with
    | some (.int _ n) => n.toNat
    | _ => 0)
  | _ => 0
/-- The number that a slice spells. -/
def numV (w : World) (v : Value) : Nat :=
  match v with
  | .slice a n _ => vl ((List.range n).map (celN w a))
  | _ => 0
theorem numV_is {w : World} {a : Option Addr} {n c : Nat} {m : Nat} (h : NumAt w ⟨a, n, c⟩ m) : numV w (.slice a n c) = m := by
  have e : (List.range n).map (celN w a) = digs m := by
    have h1 : n = (digs m).length := h.1
    apply List.ext_getElem
    · simpa using h1
    · intro i hi hi'
      rcases h.2.2.2 with h0 | ⟨b, off, ha, hb, hc⟩
      · have h0' : n = 0 := h0
        simp at hi; omega
      · have ha' : a = some ⟨b, off, none⟩ := ha
        subst ha'
        have := hc i (by simpa using hi)
        simp [celN, this, List.getD, hi']
  simp only [numV, e, vl_digs]
set_option maxHeartbeats 8000000 in
theorem gcd_calls (a : Option Addr) (n c : Nat) (a' : Option Addr) (n' c' : Nat) (x y : Nat) (w : World) (h : NumAt w ⟨a, n, c⟩ x) (h' : NumAt w ⟨a', n', c'⟩ y) (hn : n ≤ 500) (hn' : n' ≤ 500) :
    Calls Try.prog 54 #[.slice a n c, .slice a' n' c'] w fun e w' => ∃ s : Sl, e = .returned (.slice s.a s.len s.cap) ∧ NumAt w' s (Nat.gcd x y) ∧ Cls w w' := by
  have HN := Lib.hid h
  have HN' := Lib.hid h'
  clear h h'
  go_enter Try.func54, Try.ntmps54
  go_wp2_with fail
  go_loopw [0, 1] (fun s0 s1 wr => ∃ (p q : Nat) (A B : Sl), s0 = .slice A.a A.len A.cap ∧ s1 = .slice B.a B.len B.cap ∧ A.len ≤ 500 ∧ B.len ≤ 500 ∧ Hid (NumAt wr A p) ∧ Hid (NumAt wr B q) ∧ Hid (Nat.gcd p q = Nat.gcd x y) ∧ Cls w wr) (fun _ s1 wr => numV wr s1)
  case atStart => exact ⟨x, y, ⟨a, n, c⟩, ⟨a', n', c'⟩, rfl, rfl, hn, hn', HN, HN', Lib.hid rfl, Cls.of (Below.refl _ _)⟩
  case round =>
    obtain ⟨p, q, A, B, rfl, rfl, hA, hB, hP, hQ, hG, z, rfl⟩ := hrel
    have hM := Lib.hid (numV_is (a := B.a) (n := B.len) (c := B.cap) hQ.out)
    by_cases h0 : q = 0
    · subst h0
      have hl : B.len = 0 := by rw [hQ.out.1, digs_zero]; rfl
      have d1 : decide (0 < B.len) = false := decide_eq_false (by omega)
      clear hl
      go_wp2_with fail
      go_ret
      exact ⟨A, rfl, by rw [← hG.out, Nat.gcd_zero_right]; exact hP.out, z, rfl⟩
    · have hl : 0 < B.len := by rw [hQ.out.1]; exact digs_len_pos (Nat.pos_of_ne_zero h0)
      have C1 := Lib.hid (div_calls A.a A.len A.cap B.a B.len B.cap p q z.val hP.out hQ.out hA hB (Nat.pos_of_ne_zero h0))
      have H0 := Lib.hid h0
      have HLE : Hid (∀ (s : Sl) (W : World), NumAt W s (p % q) → s.len ≤ 500) := Lib.hid fun s W h => by
        have := h.1
        have := digs_mono (Nat.le_of_lt (Nat.mod_lt p (Nat.pos_of_ne_zero h0)))
        have := hQ.out.1
        omega
      clear h0
      go_wp2_with (go_at_call 83; (with_reducible refine C1.out.mono ?_); rintro e _ ⟨s, t, rfl, hs, ht, ⟨y1, rfl⟩⟩; have y1s := y1.size; have HT := Lib.hid ht; clear hs ht)
      go_roundw
      case rel => exact ⟨q, p % q, B, t, rfl, rfl, hB, HLE.out _ _ HT.out, Lib.hid (hQ.out.later y1.below), HT, Lib.hid (by rw [gcd_step _ _ (Nat.pos_of_ne_zero H0.out)]; exact hG.out), Cls.of (y1.on z.below z.size)⟩
      case measure =>
        have m1 := hM.out
        have m2 := numV_is (a := t.a) (n := t.len) (c := t.cap) HT.out
        simp [m1, m2]
        exact Nat.mod_lt _ (Nat.pos_of_ne_zero H0.out)
end Go.Proofs.Ytogjollefllajaa
