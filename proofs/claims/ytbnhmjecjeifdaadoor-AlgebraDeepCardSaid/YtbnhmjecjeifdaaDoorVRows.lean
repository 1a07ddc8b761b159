/-
  Lists of values as slices that came in, and what the reference's CompareRows gives for them.
-/
import Derived.Test.YtbnhmjecjeifdaaDoorChecked
import Derived.Test.YtbnhmjecjeifdaaDoorTail
import Derived.Test.YtbnhmjecjeifdaaDoorPlain
import Derived.WalkLawsBesides
import Derived.LoopTactic
import Derived.Lib.Hide
import Derived.BigQuiet
set_option linter.unusedVariables false
namespace Go.Proofs.YtbnhmjecjeifdaaDoor
open Go Go.RowKit
set_option maxHeartbeats 800000 in
theorem rCompare_calls (k n : Int) (s : ByteArray) (k' n' : Int) (s' : ByteArray) (w : World) :
    Calls Tryd.prog 131 #[.agg #[.int .i64 k, .int .i64 n, .string s], .agg #[.int .i64 k', .int .i64 n', .string s']] w fun e w' => e = .returned (.int .i64 (cmpV k n s k' n' s')) ∧ Cls w w' := by
  go_enter Tryd.func131, Tryd.ntmps131
  go_wp2
  all_goals
    go_ret
    refine ⟨ret_int ?_, Cls.of (((Below.refl _ _).alloc (Nat.le_refl _) _).alloc (by simp) _)⟩
    first | (simp only [cmpV, cmpI]; split <;> (try split) <;> (try split) <;> omega) | (simp_all [cmpV, cmpS]; done) | (obtain rfl : k = k' := (by omega); obtain rfl : n = n' := (by omega); simp_all [cmpV, cmpS]; done)
/-- Kind, number and text of a value. -/
structure Vl where
  k : Int
  n : Int
  s : ByteArray
def Vl.z : Vl := ⟨0, 0, ⟨#[]⟩⟩
/-- The slice holds these values. -/
def Holds (w : World) (a : Option Addr) (len : Nat) (l : List Vl) : Prop :=
  l.length = len ∧ (len = 0 ∨ ∃ b off, a = some ⟨b, off, none⟩ ∧ b < w.heap.size ∧ ∀ i, i < len →
    w.cell? ⟨b, off + i * 3, none⟩ = some (.int .i64 (l.getD i Vl.z).k) ∧ w.cell? ⟨b, off + i * 3 + 1, none⟩ = some (.int .i64 (l.getD i Vl.z).n) ∧ w.cell? ⟨b, off + i * 3 + 2, none⟩ = some (.string (l.getD i Vl.z).s))
theorem Holds.later {w : World} {a : Option Addr} {len : Nat} {l : List Vl} (h : Holds w a len l) {w' : World} (hb : Below w.heap.size w w') : Holds w' a len l := by
  refine ⟨h.1, h.2.imp id ?_⟩
  rintro ⟨b, off, ha, hlt, hc⟩
  refine ⟨b, off, ha, Nat.lt_of_lt_of_le hlt hb.size, fun i hi => ?_⟩
  obtain ⟨h0, h1, h2⟩ := hc i hi
  exact ⟨by rw [hb.cell (p := ⟨b, _, none⟩) hlt]; exact h0, by rw [hb.cell (p := ⟨b, _, none⟩) hlt]; exact h1, by rw [hb.cell (p := ⟨b, _, none⟩) hlt]; exact h2⟩
def cmpW (a b : Vl) : Int := cmpV a.k a.n a.s b.k b.n b.s
def cmpL : List Vl → List Vl → Int
  | [], [] => 0
  | [], _ :: _ => -1
  | _ :: _, [] => 1
  | a :: l, b :: m => if cmpW a b = 0 then cmpL l m else cmpW a b
theorem drop_getD {l : List Vl} {j : Nat} (h : j < l.length) : l.drop j = l.getD j Vl.z :: l.drop (j + 1) := by
  rw [List.drop_eq_getElem_cons h]; simp [List.getD, h]
theorem cmpL_go {l l' : List Vl} {j : Nat} (h : j < l.length) (h' : j < l'.length) (hz : cmpW (l.getD j Vl.z) (l'.getD j Vl.z) = 0) : cmpL (l.drop j) (l'.drop j) = cmpL (l.drop (j + 1)) (l'.drop (j + 1)) := by
  rw [drop_getD h, drop_getD h', cmpL, if_pos hz]
theorem cmpL_stop {l l' : List Vl} {j : Nat} (h : j < l.length) (h' : j < l'.length) (hz : ¬ cmpW (l.getD j Vl.z) (l'.getD j Vl.z) = 0) : cmpL (l.drop j) (l'.drop j) = cmpW (l.getD j Vl.z) (l'.getD j Vl.z) := by
  rw [drop_getD h, drop_getD h', cmpL, if_neg hz]
theorem cmpL_end {l l' : List Vl} {j : Nat} (h : j ≤ l.length) (h' : j ≤ l'.length) (he : j = l.length ∨ j = l'.length) : cmpL (l.drop j) (l'.drop j) = cmpI l.length l'.length := by
  unfold cmpI
  rcases Nat.lt_or_ge j l.length with h1 | h1
  · have h2 : j = l'.length := by omega
    rw [drop_getD h1, List.drop_of_length_le (by omega : l'.length ≤ j), cmpL, if_neg (by omega), if_pos (by omega)]
  · rw [List.drop_of_length_le h1]
    rcases Nat.lt_or_ge j l'.length with h2 | h2
    · rw [drop_getD h2, cmpL, if_pos (by omega)]
    · rw [List.drop_of_length_le h2, cmpL, if_neg (by omega), if_neg (by omega)]
/-- A row comes before each longer one that begins with it. -/
theorem cmpL_append (l m : List Vl) : cmpL l (l ++ m) = if m.length = 0 then 0 else -1 := by
  induction l with
  | nil => cases m <;> simp [cmpL]
  | cons a l ih => rw [List.cons_append, cmpL, if_pos (by unfold cmpW; exact cmpV_self _ _ _), ih]
theorem cmpL_append' (l m : List Vl) : cmpL (l ++ m) l = if m.length = 0 then 0 else 1 := by
  induction l with
  | nil => cases m <;> simp [cmpL]
  | cons a l ih => rw [List.cons_append, cmpL, if_pos (by unfold cmpW; exact cmpV_self _ _ _), ih]

end Go.Proofs.YtbnhmjecjeifdaaDoor
