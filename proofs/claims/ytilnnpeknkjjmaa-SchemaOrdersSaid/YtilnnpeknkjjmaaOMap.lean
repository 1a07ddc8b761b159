/-
  A map from numbers to slices that the call itself has made: which keys are there, and which slice stands at each.
-/
import Derived.Test.YtilnnpeknkjjmaaTab
import Derived.Maps.OwnSet
import Derived.BigQuiet
set_option linter.unusedVariables false
namespace Go.Proofs.Ytilnnpeknkjjmaa
open Go Go.RowKit Go.Deep Go.Maps
/-- A slice as it stands, whatever it leads to. -/
def codeR : Value → Option (DataW Unit × List MemPlace)
  | .slice none 0 0 => some (.nil, [])
  | .slice (some ⟨g, 0, none⟩) n c => some (.agg [.lit (.int .i64 (g : Nat)), .lit (.int .i64 (n : Nat)), .lit (.int .i64 (c : Nat))], [])
  | _ => none
def nilV : Value := .slice none 0 0
theorem codeR_nil : codeR nilV = some (.nil, []) := rfl
theorem codeR_some (g n c : Nat) : codeR (.slice (some ⟨g, 0, none⟩) n c) = some (.agg [.lit (.int .i64 (g : Nat)), .lit (.int .i64 (n : Nat)), .lit (.int .i64 (c : Nat))], []) := rfl
theorem codeR_inv {v : Value} {d : DataW Unit} {ps : List MemPlace} (h : codeR v = some (d, ps)) : (v = nilV ∧ d = .nil) ∨ ∃ g n c, v = .slice (some ⟨g, 0, none⟩) n c ∧ d = .agg [.lit (.int .i64 (g : Nat)), .lit (.int .i64 (n : Nat)), .lit (.int .i64 (c : Nat))] := by
  unfold codeR at h
  split at h
  · simp only [Option.some.injEq, Prod.mk.injEq] at h
    exact .inl ⟨rfl, h.1.symm⟩
  · simp only [Option.some.injEq, Prod.mk.injEq] at h
    exact .inr ⟨_, _, _, rfl, h.1.symm⟩
  · cases h
theorem codeR_inj {v v' : Value} {d : DataW Unit} {ps ps' : List MemPlace} (h : codeR v = some (d, ps)) (h' : codeR v' = some (d, ps')) : v = v' := by
  rcases codeR_inv h with ⟨rfl, rfl⟩ | ⟨g, n, c, rfl, rfl⟩ <;> rcases codeR_inv h' with ⟨rfl, e⟩ | ⟨g', n', c', rfl, e⟩
  · rfl
  · cases e
  · cases e
  · simp only [DataW.agg.injEq, List.cons.injEq, DataW.lit.injEq, Lit.int.injEq, true_and, and_true] at e
    obtain ⟨e1, e2, e3⟩ := e
    have h1 : g = g' := by exact_mod_cast e1
    have h2 : n = n' := by exact_mod_cast e2
    have h3 : c = c' := by exact_mod_cast e3
    subst h1 h2 h3
    rfl
theorem keyL : Keyed Try.prog 3 := int_keyed Try.underlying3
theorem wf_key {j : Nat} (hj : j < 1000) : (Lit.int .i64 (j : Nat)).wf = true := by
  have h1 : IntKind.i64.min ≤ (j : Int) := Int.le_trans (by decide : IntKind.i64.min ≤ 0) (by omega)
  have h2 : (j : Int) ≤ IntKind.i64.max := Int.le_trans (by omega : (j : Int) ≤ 1000) (by decide)
  simp [Lit.wf]
  exact ⟨h1, h2⟩
theorem hkeyL {j : Nat} (hj : j < 1000) : keyOf Try.prog 3 (.int .i64 (j : Nat)) = some (.int .i64 (j : Nat)) := keyOf_int_mk Try.underlying3 (wf_key hj)
theorem zeroL (w : World) : (zeroValue 26).run Try.prog w = .ok (.slice none 0 0) w := by kernel_rfl
/-- Block B is a map of m entries: at key j stands f j, if anything. -/
def MapIs (w : World) (B c m : Nat) (f : Nat → Option Value) : Prop :=
  ∃ D : DataW Unit, w.ownsMap Try.prog 3 codeR B c D ∧ Maps.size D = m ∧ ∀ j : Nat, j < 1000 → Maps.has D (.int .i64 (j : Nat)) = (f j).isSome ∧ codeR ((f j).getD nilV) = some (D.atKey (.int .i64 (j : Nat)) .nil, [])
theorem MapIs.lt {w : World} {B c m : Nat} {f : Nat → Option Value} (h : MapIs w B c m f) : B < w.heap.size := by
  obtain ⟨D, h1, _⟩ := h
  exact h1.lt
theorem MapIs.grown {w w' : World} {B c m : Nat} {f : Nat → Option Value} {row : Option Nat} (h : MapIs w B c m f) (hg : w.grownBy w' row) (hr : some B ≠ row) : MapIs w' B c m f := by
  obtain ⟨D, h1, h2⟩ := h
  exact ⟨D, h1.kept hg hr, h2⟩
theorem MapIs.same {w w' : World} {B c m : Nat} {f : Nat → Option Value} (h : MapIs w B c m f) (hb : w'.heap[B]? = w.heap[B]?) : MapIs w' B c m f := by
  obtain ⟨D, ⟨es, clock, h0, r⟩, h2⟩ := h
  exact ⟨D, ⟨es, clock, hb.trans h0, r⟩, h2⟩
theorem MapIs.later {w w' : World} {B c m : Nat} {f : Nat → Option Value} (h : MapIs w B c m f) (hb : Below w.heap.size w w') : MapIs w' B c m f := h.same (hb.block B h.lt)
theorem MapIs.congr {w : World} {B c m m' : Nat} {f f' : Nat → Option Value} (h : MapIs w B c m f) (hm : m = m') (hf : ∀ j, j < 1000 → f j = f' j) : MapIs w B c m' f' := by
  subst hm
  obtain ⟨D, h1, h2, h3⟩ := h
  exact ⟨D, h1, h2, fun j hj => by rw [← hf j hj]; exact h3 j hj⟩
theorem MapIs.made (w : World) : MapIs (w.alloc (.map #[] 0)) w.heap.size 0 0 fun _ => none :=
  ⟨.map [], World.ownsMap_made w _ _ _, rfl, fun j hj => ⟨rfl, rfl⟩⟩
theorem MapIs.look {w : World} {B c m : Nat} {f : Nat → Option Value} (h : MapIs w B c m f) {j : Nat} (hj : j < 1000) : (Instr.lookup 42 (.map (some B)) (.int .i64 (j : Nat)) false).run Try.prog w = .ok ((f j).getD nilV) w := by
  obtain ⟨D, h1, _, h3⟩ := h
  obtain ⟨v, ps, hrun, hv⟩ := h1.lookup keyL Try.underlying42 (zeroL w) codeR_nil (hkeyL hj)
  rw [hrun, codeR_inj hv (h3 j hj).2]
theorem MapIs.look_ok {w : World} {B c m : Nat} {f : Nat → Option Value} (h : MapIs w B c m f) {j : Nat} (hj : j < 1000) : (Instr.lookup 42 (.map (some B)) (.int .i64 (j : Nat)) true).run Try.prog w = .ok (.tuple #[(f j).getD nilV, .bool (f j).isSome]) w := by
  obtain ⟨D, h1, _, h3⟩ := h
  obtain ⟨v, ps, hrun, hv⟩ := h1.look_ok keyL Try.underlying42 (zeroL w) codeR_nil (hkeyL hj)
  rw [hrun, codeR_inj hv (h3 j hj).2, (h3 j hj).1]
theorem MapIs.len {w : World} {B c m : Nat} {f : Nat → Option Value} (h : MapIs w B c m f) (ty : TypeId) : (Builtin.len_ #[42] ty #[.map (some B)]).run Try.prog w = .ok (.int .i64 (m : Nat)) w := by
  obtain ⟨D, h1, h2, _⟩ := h
  rw [h1.len Try.underlying42 ty, h2]
def upd (f : Nat → Option Value) (i : Nat) (v : Option Value) : Nat → Option Value := fun j => if j = i then v else f j
theorem upd_at {f : Nat → Option Value} {i : Nat} {v : Option Value} : upd f i v i = v := if_pos rfl
theorem upd_ne {f : Nat → Option Value} {i j : Nat} {v : Option Value} (h : j ≠ i) : upd f i v j = f j := if_neg h
theorem lit_ne {i j : Nat} (h : j ≠ i) : (Lit.int .i64 (j : Nat)) ≠ Lit.int .i64 (i : Nat) := fun e => by
  simp only [Lit.int.injEq, true_and] at e
  omega
theorem MapIs.store {w : World} {B c m : Nat} {f : Nat → Option Value} (h : MapIs w B c m f) {i : Nat} (hi : i < 1000) (hc : c < maxLen) {v : Value} {d : DataW Unit} (hv : codeR v = some (d, [])) :
    ∃ w', (Instr.mapUpdate 42 (.map (some B)) (.int .i64 (i : Nat)) v).run Try.prog w = .ok () w' ∧ MapIs w' B (c + 1) (if (f i).isSome then m else m + 1) (upd f i (some v)) ∧ w.mapTurned w' B := by
  obtain ⟨D, h1, h2, h3⟩ := h
  obtain ⟨w', hrun, hown, ht⟩ := h1.store keyL Try.underlying42 hc (hkeyL hi) hv
  refine ⟨w', hrun, ⟨_, hown, ?_, fun j hj => ?_⟩, ht⟩
  · rw [size_put (h1.tidy keyL), (h3 i hi).1, h2]
  · by_cases e : j = i
    · subst e
      rw [upd_at, has_put_same h1.isMap (keyL.key (hkeyL hi)), atKey_put_same h1.isMap (keyL.key (hkeyL hi))]
      exact ⟨rfl, hv⟩
    · rw [upd_ne e, has_put_other (lit_ne e), atKey_put_other (lit_ne e)]
      exact h3 j hj
theorem MapIs.drop {w : World} {B c m : Nat} {f : Nat → Option Value} (h : MapIs w B c m f) {i : Nat} (hi : i < 1000) (ty : TypeId) :
    ∃ w', (Builtin.delete_ #[42, 3] ty #[.map (some B), .int .i64 (i : Nat)]).run Try.prog w = .ok (.tuple #[]) w' ∧ (∃ m', MapIs w' B c m' (upd f i none) ∧ ((f i).isSome = true → m' + 1 = m)) ∧ w.mapTurned w' B := by
  obtain ⟨D, h1, h2, h3⟩ := h
  obtain ⟨w', hrun, hown, ht⟩ := h1.drop keyL Try.underlying42 (hkeyL hi) ty
  refine ⟨w', hrun, ⟨_, ⟨_, hown, rfl, fun j hj => ?_⟩, fun hs => ?_⟩, ht⟩
  rotate_left
  · have h4 := size_del (k := .int .i64 (i : Nat)) (h1.tidy keyL)
    rw [(h3 i hi).1, hs, h2, if_pos rfl] at h4
    exact h4
  · by_cases e : j = i
    · subst e
      rw [upd_at, has_del_same, atKey_del_same]
      exact ⟨rfl, rfl⟩
    · rw [upd_ne e, has_del_other (lit_ne e), atKey_del_other (lit_ne e)]
      exact h3 j hj
/-! ### at the operation -/
section
variable (w : World) {ops : Array Oper} {rest : List Oper} {o : Oper} {a : Act} {Q : Exit → Act → World → Prop}
theorem wpList_store_z (hg : o.guard = none) (m x v : Operand) (hop : o.op = Op.mapUpdate 42 m x v) (B c n : Nat) (f : Nat → Option Value) (hm : a.eval m = .map (some B)) (hown : MapIs w B c n f) (hc : c < maxLen) (i : Nat) (hi : i < 1000) (val : Value) (hx : a.eval x = .int .i64 (i : Nat)) (hv : a.eval v = val)
    (d : DataW Unit) (hval : codeR val = some (d, [])) (hK : ∀ w', MapIs w' B (c + 1) (if (f i).isSome then n else n + 1) (upd f i (some val)) → w.grownBy w' (some B) → wpList Try.prog ops Q rest (a.put o.dst undef) w') : wpList Try.prog ops Q (o :: rest) a w := by
  refine wpList_plain hg fun K' hK' => ?_
  obtain ⟨w', hrun, r1, r2⟩ := hown.store hi hc hval
  unfold Oper.wp
  simp [execOp, hop, hm, hx, hv, hrun, Result.andThen]
  exact hK' _ _ (hK w' r1 r2.grown)
theorem wpList_drop_z (hg : o.guard = none) (m x : Operand) (hop : o.op = Op.call { callee := Callee.builtin Builtin.delete, args := #[m, x], argTypes := #[42, 3] }) (B c n : Nat) (f : Nat → Option Value) (hm : a.eval m = .map (some B)) (hown : MapIs w B c n f) (i : Nat) (hi : i < 1000) (hx : a.eval x = .int .i64 (i : Nat))
    (hK : ∀ w' m', MapIs w' B c m' (upd f i none) → ((f i).isSome = true → m' + 1 = n) → w.grownBy w' (some B) → wpList Try.prog ops Q rest (a.put o.dst (.tuple #[])) w') : wpList Try.prog ops Q (o :: rest) a w := by
  refine wpList_plain hg fun K' hK' => ?_
  obtain ⟨w', hrun, ⟨m', r1, r3⟩, r2⟩ := hown.drop hi o.type
  unfold Oper.wp
  simp [execOp, hop, resolve, invoke, builtin, hm, hx, hrun, Result.andThen]
  exact hK' _ _ (hK w' m' r1 r3 r2.grown)
end
end Go.Proofs.Ytilnnpeknkjjmaa
