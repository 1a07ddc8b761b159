/-
  What the size of a query is.
-/
import Derived.Test.YtbnhmjecjeifdaaDoorQBulk
import Derived.Test.YtbnhmjecjeifdaaDoorFew
set_option linter.unusedVariables false
namespace Go.Proofs.YtbnhmjecjeifdaaDoor
open Go Go.RowKit Go.Deep
mutual
/-- The expressions in an expression. -/
def nodE : Ex → Nat
  | .mk _ _ _ _ _ l => 1 + nodL l
def nodL : List Ex → Nat
  | [] => 0
  | k :: r => nodE k + nodL r
end
theorem nodE_eq (e : Ex) : nodE e = 1 + nodL e.kids := by cases e; rw [nodE]; rfl
theorem nodL_append (l m : List Ex) : nodL (l ++ m) = nodL l + nodL m := by
  induction l with
  | nil => simp [nodL]
  | cons x l ih => simp only [List.cons_append, nodL, ih]; omega
theorem nodE_le : ∀ e : Ex, nodE e ≤ cntE e := by
  refine Ex.ind fun e ih => ?_
  have key : ∀ (l : List Ex), (∀ k ∈ l, nodE k ≤ cntE k) → nodL l ≤ cntL l := by
    intro l
    induction l with
    | nil => intro _; simp [nodL]
    | cons k r ih2 =>
      intro hk
      have h1 := ih2 fun k' hk' => hk k' (List.mem_cons_of_mem _ hk')
      have h3 := hk k (List.mem_cons_self ..)
      rw [nodL, cntL]; omega
  have h := key e.kids ih
  rw [nodE_eq, cntE_eq]; omega
theorem nodL_le : ∀ l : List Ex, nodL l ≤ cntL l
  | [] => by simp [nodL]
  | k :: r => by have h1 := nodE_le k; have h2 := nodL_le r; rw [nodL, cntL]; omega
theorem wrap_small {n : Int} (h0 : 0 ≤ n) (h : n ≤ 2 ^ 62) : wrap64 n = n := by unfold wrap64; omega
theorem sizeW_nod : ∀ e : Ex, nodE e ≤ 2 ^ 60 → sizeW e = nodE e := by
  refine Ex.ind fun e ih => ?_
  intro h
  have key : ∀ (l : List Ex), (∀ k ∈ l, nodE k ≤ 2 ^ 60 → sizeW k = nodE k) → ∀ n : Nat, n + nodL l ≤ 2 ^ 60 → sizeL l n = n + nodL l := by
    intro l
    induction l with
    | nil => intro _ n _; rw [sizeL, nodL]; simp
    | cons k r ih2 =>
      intro hk n hn
      rw [nodL] at hn
      rw [sizeL, hk k (List.mem_cons_self ..) (by omega), wrap_small (by omega) (by omega), ← Int.natCast_add, ih2 (fun k' hk' => hk k' (List.mem_cons_of_mem _ hk')) (n + nodE k) (by omega), nodL]
      omega
  rw [nodE_eq] at h
  have h2 := key e.kids ih 1 (by omega)
  rw [sizeW_eq, nodE_eq, show (1 : Int) = ((1 : Nat) : Int) from rfl, h2]
  omega
theorem nodL_sum : ∀ (l : List Ex), nodL l = sumN (fun i => nodE (l.getD i Ex.z)) l.length := by
  have key : ∀ (l : List Ex) (m : Nat), m ≤ l.length → nodL (l.take m) = sumN (fun i => nodE (l.getD i Ex.z)) m := by
    intro l m
    induction m with
    | zero => intro _; simp [nodL, sumN]
    | succ m ih =>
      intro h
      have e : l.take (m + 1) = l.take m ++ [l.getD m Ex.z] := by rw [List.take_add_one, List.getElem?_eq_getElem (by omega)]; simp [List.getD, show m < l.length by omega]
      rw [e, nodL_append, ih (by omega)]
      simp [nodL, sumN]
  intro l
  have h := key l l.length (Nat.le_refl _)
  rwa [List.take_length] at h
def exF (p : Qr) (i : Nat) : Nat := nodE (p.exprs.getD i Ex.z)
def agF (p : Qr) (i : Nat) : Nat := if (p.agg i).fn = 1 then 0 else nodE (p.agg i).arg
def rwF (p : Qr) (i : Nat) : Nat := (p.row i).len
def condN (p : Qr) : Nat := if p.op = 3 ∨ p.op = 5 then nodE p.cond else 0
def exprN (p : Qr) : Nat := if p.op = 4 ∨ p.op = 10 then sumN (exF p) p.es.len else 0
def aggN (p : Qr) : Nat := if p.op = 10 then sumN (agF p) p.gs.len else 0
/-- The size of a query. -/
def szQ : Qy → Nat
  | .nil => 0
  | .mk p ks kid => 1 + condN p + exprN p + aggN p + sumN (rwF p) p.rs.len + sumN (fun i => szQ (kid i)) ks.len
theorem szP_le {p : Qr} (h : p.exprs.length = p.es.len) : condN p + exprN p + aggN p + sumN (rwF p) p.rs.len ≤ cntP p := by
  have h1 : condN p ≤ cntE p.cond := by unfold condN; split; exact nodE_le _; omega
  have h2 : exprN p ≤ cntL p.exprs := by
    unfold exprN; split
    · rw [← h]; exact (nodL_sum p.exprs).symm ▸ nodL_le p.exprs
    · omega
  have h3 : aggN p ≤ sumN (fun i => cntE (p.agg i).arg) p.gs.len := by
    unfold aggN; split
    · refine sumN_le fun i _ => ?_
      unfold agF; split
      · omega
      · exact nodE_le _
    · omega
  unfold cntP
  have h4 : sumN (rwF p) p.rs.len = sumN (fun i => (p.row i).len) p.rs.len := rfl
  omega
theorem szQ_le {w : World} : ∀ {q : Qy}, QAt w q → szQ q ≤ cntQ q := by
  intro q h
  refine QAt.ind (M := fun q => szQ q ≤ cntQ q) (fun q hq ih => ?_) h
  cases hq with
  | mk p ks kid hp hk hkid =>
    have h1 := szP_le hp.exprs.len_eq
    have h2 : sumN (fun i => szQ (kid i)) ks.len ≤ sumN (fun i => cntQ (kid i)) ks.len := sumN_le fun i hi => ih i hi
    show 1 + condN p + exprN p + aggN p + sumN (rwF p) p.rs.len + sumN (fun i => szQ (kid i)) ks.len ≤ 1 + cntP p + sumN (fun i => cntQ (kid i)) ks.len
    omega
end Go.Proofs.YtbnhmjecjeifdaaDoor
