/-
  One level of the program's typeOf: its loop over the Kids, and what it asks of the operation. The program's Type of the expressions that the tape makes.
-/
import Derived.Test.YtpddkljedhghkaaDoorJ20
import Derived.Test.YtpddkljedhghkaaDoorJ15
import Derived.Test.YtpddkljedhghkaaDoorJ17
set_option linter.unusedVariables false
namespace Go.Proofs.YtpddkljedhghkaaDoor
open Go Go.RowKit Go.Deep
theorem NumIn.of {T : Nat} {w : World} {a : Option Addr} {len cap : Nat} {l : List Int} (h : IntsAt T w a len cap l) : NumIn w a len cap l := by
  refine ⟨h.1, h.2.1, h.2.2.1, h.2.2.2.imp id ?_⟩
  rintro ⟨b, off, ha, hT, hb, hc⟩
  exact ⟨b, off, ha, hb, hc⟩
theorem numIn_own {w : World} {base : Nat} {v : Value} {l : List Int} (h : w.ownsRow base 3 1 v l.length (flatI l)) (hT : 0 < base) : ∃ a cap, v = .slice a l.length cap ∧ NumIn w a l.length cap l := by
  obtain ⟨a, cap, h1, h2⟩ := intsAt_of h hT
  exact ⟨a, cap, h1, .of h2⟩
theorem own_later2 {w w' : World} {base size n : Nat} {e : TypeId} {v : Value} {xs : List Value} (h : w.ownsRow base e size v n xs) (hb : Below w.heap.size w w') : w'.ownsRow base e size v n xs := by
  refine ⟨h.1, h.2.imp id ?_⟩
  rintro ⟨g, cap, cur, hv, hg, hh, rest⟩
  exact ⟨g, cap, cur, hv, hg, (hb.block g (Array.getElem?_eq_some_iff.1 hh).1).trans hh, rest⟩
theorem cls_made {w w' : World} (hg : w.grownBy w' none) : Cls w w' := Cls.of (Below.grown (w := w) (Below.refl _ _) hg (Nat.le_refl _) (fun k hk => by cases hk))
theorem take_snocI {l : List Int} {j : Nat} (h : j < l.length) : l.take (j + 1) = l.take j ++ [l.getD j 0] := by
  rw [List.take_succ_eq_append_getElem h]
  simp [List.getD, h]
end Go.Proofs.YtpddkljedhghkaaDoor
set_option linter.unusedVariables false
namespace Go.Proofs.YtpddkljedhghkaaDoor
open Go Go.RowKit Go.Deep
instance (o : ORow) (ks : List Int) : Decidable (Fits o ks) := inferInstanceAs (Decidable (∀ j, j < ks.length → ks.getD j 0 = if wantAt o j = -1 then oneAt o ks (j + 1) else wantAt o j))
/-- What the table says of an operation over Kids of one type. -/
def Row_ok (n : Nat) (x k : Int) (m : Nat) : Prop := Fits (oRow n) (List.replicate m x) ∧ givesOf (oRow n) (List.replicate m x) = k ∧ takesH (oRow n).has m = true
instance (n : Nat) (x k : Int) (m : Nat) : Decidable (Row_ok n x k m) := inferInstanceAs (Decidable (_ ∧ _ ∧ _))
theorem sig_few' {k op x : Int} {n : Nat} (h : Sig k op x n) : n ≤ 4 := by
  unfold Sig at h; omega
theorem sizL_le {l : List Ex} {M : Nat} (h : ∀ e ∈ l, sizE e ≤ M) : sizL l ≤ l.length * M := by
  induction l with
  | nil => simp [sizL]
  | cons k r ih =>
    have h1 := h k (by simp)
    have h2 := ih (fun e he => h e (by simp [he]))
    rw [sizL, List.length_cons, Nat.succ_mul]
    omega
theorem depL_le {l : List Ex} {M : Nat} (h : ∀ e ∈ l, depE e ≤ M) : depL l ≤ M := by
  induction l with
  | nil => simp [depL]
  | cons k r ih =>
    have h1 := h k (by simp)
    have h2 := ih (fun e he => h e (by simp [he]))
    rw [depL]
    omega
theorem Made.bounds {ty : List Int} {d : Nat} {k : Int} {e : Ex} (h : Made ty d k e) : depE e ≤ d + 1 ∧ sizE e ≤ 5 ^ (d + 1) := by
  induction h with
  | col k c hc h => exact ⟨by simp [depE, depL], by simp only [sizE, sizL]; exact Nat.one_le_pow _ _ (by decide)⟩
  | const k v h => exact ⟨by simp [depE, depL], by simp only [sizE, sizL]; exact Nat.one_le_pow _ _ (by decide)⟩
  | @case d k c a b hc ha hb ihc iha ihb =>
    have hp : 5 ^ (d + 1 + 1) = 5 ^ (d + 1) * 5 := Nat.pow_succ ..
    have h1 : 1 ≤ 5 ^ (d + 1) := Nat.one_le_pow _ _ (by decide)
    simp only [Ex.node, depE, depL, sizE, sizL]
    omega
  | @node d k op x l h hl2 ih =>
    have hp : 5 ^ (d + 1 + 1) = 5 ^ (d + 1) * 5 := Nat.pow_succ ..
    have h1 : 1 ≤ 5 ^ (d + 1) := Nat.one_le_pow _ _ (by decide)
    have h2 := depL_le (fun e he => (ih e he).1)
    have h3 := sizL_le (fun e he => (ih e he).2)
    have h4 := sig_few' h
    have h5 : l.length * 5 ^ (d + 1) ≤ 4 * 5 ^ (d + 1) := Nat.mul_le_mul_right _ h4
    simp only [Ex.node, depE, sizE]
    omega
end Go.Proofs.YtpddkljedhghkaaDoor
