/-
  The chain that the law builds: each distinct has its kid in a block of its own.
-/
import Derived.Test.YtbnhmjecjeifdaaDoorDChain
import Derived.Test.YtbnhmjecjeifdaaDoorDTape
set_option linter.unusedVariables false
namespace Go.Proofs.YtbnhmjecjeifdaaDoor
open Go Go.RowKit Go.Deep
/-- The blocks of the chain's first n kids lie behind block b, and hold them. -/
def ChainAt (b n : Nat) (bs : Nat → Nat) (w : World) : Prop :=
  ∀ j, j < n → b < bs j ∧ w.heap[bs j]? = some (.cells (chainQ bs j).cells.toArray 63)
theorem ChainAt.tp {b n : Nat} {bs : Nat → Nat} {w w' : World} (h : ChainAt b n bs w) (hb : Tp b w w') : ChainAt b n bs w' := fun j hj => by
  obtain ⟨h1, h2⟩ := h j hj
  exact ⟨h1, (hb.block _ (Array.getElem?_eq_some_iff.1 h2).1 (by omega)).trans h2⟩
theorem chain_congr {bs bs' : Nat → Nat} : ∀ n, (∀ j, j < n → bs j = bs' j) → chainQ bs n = chainQ bs' n
  | 0, _ => rfl
  | n + 1, h => by
    have h1 := chain_congr n fun j hj => h j (by omega)
    have h2 := h n (by omega)
    show Qy.mk _ _ _ = Qy.mk _ _ _
    rw [h1, h2]
/-- One more kid, in block g. -/
def more (bs : Nat → Nat) (n g : Nat) : Nat → Nat := fun j => if j = n then g else bs j
theorem more_low {bs : Nat → Nat} {n g : Nat} : ∀ j, j < n → more bs n g j = bs j := fun j hj => if_neg (by omega)
theorem more_at {bs : Nat → Nat} {n g : Nat} : more bs n g n = g := if_pos rfl
theorem ChainAt.push {b n g : Nat} {bs : Nat → Nat} {w : World} (h : ChainAt b n bs w) (hg : b < g) (hc : w.heap[g]? = some (.cells (chainQ bs n).cells.toArray 63)) : ChainAt b (n + 1) (more bs n g) w := fun j hj => by
  by_cases e : j = n
  · subst e
    rw [more_at, chain_congr j more_low]
    exact ⟨hg, hc⟩
  · rw [more_low j (by omega), chain_congr j fun i hi => more_low i (by omega)]
    exact h j (by omega)
theorem sl_none {w : World} {k : Nat} {f : Nat → List Value} : SlAt w k Sl.z f := ⟨Nat.le_refl _, Nat.zero_le _, fun _ => ⟨rfl, rfl⟩, fun i hi => absurd hi (Nat.not_lt_zero _)⟩
theorem plainR_at (op : Int) (t : ByteArray) (w : World) (ht : t.size ≤ maxLen) : QrAt w (plainR op t) :=
  ⟨ht, show Ex.z.fine from ⟨by decide, by decide, by decide, by decide, by decide⟩, .none, .none, sl_none, fun i hi => absurd hi (Nat.not_lt_zero _), sl_none, sl_none, fun i hi => absurd hi (Nat.not_lt_zero _)⟩
theorem ChainAt.q {b : Nat} {bs : Nat → Nat} {w : World} : ∀ n, ChainAt b n bs w → QAt w (chainQ bs n)
  | 0, _ => .mk _ _ _ (plainR_at _ _ w (by decide)) sl_none fun i hi => absurd hi (Nat.not_lt_zero _)
  | n + 1, h => by
    have ih := ChainAt.q n fun j hj => h j (by omega)
    obtain ⟨h1, h2⟩ := h n (by omega)
    refine .mk _ _ _ (plainR_at _ _ w (by decide)) ⟨Nat.le_refl _, by unfold maxLen; show 1 ≤ _; omega, fun e => by simp at e, fun i hi => ?_⟩ fun _ _ => ih
    have hi0 : i = 0 := by
      have : i < 1 := hi
      omega
    subst hi0
    refine ⟨bs n, 0, rfl, (Array.getElem?_eq_some_iff.1 h2).1, fun j hj => ?_⟩
    rw [cell_of_row _ _ _ _ _ (0, 0) h2]
    simp
end Go.Proofs.YtbnhmjecjeifdaaDoor
