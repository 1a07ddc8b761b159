/-
  A map from numbers to slices that the call itself has made: which keys are there, and which slice stands at each. Which table can come next: the program's ready and what it calls. The first table that can come next: the program's ready. Worlds that are later ones but for one block: the map that a call has made. Small facts on blocks and rows; rows of numbers.
-/
import Derived.Test.YtonlmhehddbhoaaDoorJ02
import Derived.Maps.OwnSet
import Derived.BigQuiet
import Derived.Test.YtonlmhehddbhoaaDoorJ08
import Derived.Test.YtonlmhehddbhoaaDoorJ05
import Derived.Maps.AppendAt
import Derived.OwnWalk
import Derived.Test.YtonlmhehddbhoaaDoorJ06
set_option linter.unusedVariables false
namespace Go.Proofs.YtonlmhehddbhoaaDoor
open Go Go.RowKit Go.Deep Go.Maps
/-- A slice as it stands, whatever it leads to. -/
def codeR : Value → Option (DataW Unit × List MemPlace)
  | .slice none 0 0 => some (.nil, [])
  | .slice (some ⟨g, 0, none⟩) n c => some (.agg [.lit (.int .i64 (g : Nat)), .lit (.int .i64 (n : Nat)), .lit (.int .i64 (c : Nat))], [])
  | _ => none
def nilV : Value := .slice none 0 0
theorem codeR_nil : codeR nilV = some (.nil, []) := rfl
theorem codeR_some (g n c : Nat) : codeR (.slice (some ⟨g, 0, none⟩) n c) = some (.agg [.lit (.int .i64 (g : Nat)), .lit (.int .i64 (n : Nat)), .lit (.int .i64 (c : Nat))], []) := rfl
theorem codeR_inv {v : Value} {d : DataW Unit} {ps : List MemPlace} (h : codeR v = some (d, ps)) : (v = nilV ∧ d = .nil) ∨ ∃ g n c, v = .slice (some ⟨g, 0, none⟩) n c ∧ d = .agg [.lit (.int .i64 (g : Nat)), .lit (.int .i64 (n : Nat)), .lit (.int .i64 (c : Nat))] := by
  unfold codeR at h
  split at h
  · simp only [Option.some.injEq, Prod.mk.injEq] at h
    exact .inl ⟨rfl, h.1.symm⟩
  · simp only [Option.some.injEq, Prod.mk.injEq] at h
    exact .inr ⟨_, _, _, rfl, h.1.symm⟩
  · cases h
theorem codeR_inj {v v' : Value} {d : DataW Unit} {ps ps' : List MemPlace} (h : codeR v = some (d, ps)) (h' : codeR v' = some (d, ps')) : v = v' := by
  rcases codeR_inv h with ⟨rfl, rfl⟩ | ⟨g, n, c, rfl, rfl⟩ <;> rcases codeR_inv h' with ⟨rfl, e⟩ | ⟨g', n', c', rfl, e⟩
  · rfl
  · cases e
  · cases e
  · simp only [DataW.agg.injEq, List.cons.injEq, DataW.lit.injEq, Lit.int.injEq, true_and, and_true] at e
    obtain ⟨e1, e2, e3⟩ := e
    have h1 : g = g' := by exact_mod_cast e1
    have h2 : n = n' := by exact_mod_cast e2
    have h3 : c = c' := by exact_mod_cast e3
    subst h1 h2 h3
    rfl
theorem keyL : Keyed Tryd.prog 3 := int_keyed Tryd.underlying3
theorem wf_key {j : Nat} (hj : j < 1000) : (Lit.int .i64 (j : Nat)).wf = true := by
  have h1 : IntKind.i64.min ≤ (j : Int) := Int.le_trans (by decide : IntKind.i64.min ≤ 0) (by omega)
  have h2 : (j : Int) ≤ IntKind.i64.max := Int.le_trans (by omega : (j : Int) ≤ 1000) (by decide)
  simp [Lit.wf]
  exact ⟨h1, h2⟩
theorem hkeyL {j : Nat} (hj : j < 1000) : keyOf Tryd.prog 3 (.int .i64 (j : Nat)) = some (.int .i64 (j : Nat)) := keyOf_int_mk Tryd.underlying3 (wf_key hj)
theorem zeroL (w : World) : (zeroValue 22).run Tryd.prog w = .ok (.slice none 0 0) w := by kernel_rfl
/-- Block B is a map of m entries: at key j stands f j, if anything. -/
def MapIs (w : World) (B c m : Nat) (f : Nat → Option Value) : Prop :=
  ∃ D : DataW Unit, w.ownsMap Tryd.prog 3 codeR B c D ∧ Maps.size D = m ∧ ∀ j : Nat, j < 1000 → Maps.has D (.int .i64 (j : Nat)) = (f j).isSome ∧ codeR ((f j).getD nilV) = some (D.atKey (.int .i64 (j : Nat)) .nil, [])
theorem MapIs.lt {w : World} {B c m : Nat} {f : Nat → Option Value} (h : MapIs w B c m f) : B < w.heap.size := by
  obtain ⟨D, h1, _⟩ := h
  exact h1.lt
theorem MapIs.grown {w w' : World} {B c m : Nat} {f : Nat → Option Value} {row : Option Nat} (h : MapIs w B c m f) (hg : w.grownBy w' row) (hr : some B ≠ row) : MapIs w' B c m f := by
  obtain ⟨D, h1, h2⟩ := h
  exact ⟨D, h1.kept hg hr, h2⟩
theorem MapIs.same {w w' : World} {B c m : Nat} {f : Nat → Option Value} (h : MapIs w B c m f) (hb : w'.heap[B]? = w.heap[B]?) : MapIs w' B c m f := by
  obtain ⟨D, ⟨es, clock, h0, r⟩, h2⟩ := h
  exact ⟨D, ⟨es, clock, hb.trans h0, r⟩, h2⟩
theorem MapIs.later {w w' : World} {B c m : Nat} {f : Nat → Option Value} (h : MapIs w B c m f) (hb : Below w.heap.size w w') : MapIs w' B c m f := h.same (hb.block B h.lt)
theorem MapIs.congr {w : World} {B c m m' : Nat} {f f' : Nat → Option Value} (h : MapIs w B c m f) (hm : m = m') (hf : ∀ j, j < 1000 → f j = f' j) : MapIs w B c m' f' := by
  subst hm
  obtain ⟨D, h1, h2, h3⟩ := h
  exact ⟨D, h1, h2, fun j hj => by rw [← hf j hj]; exact h3 j hj⟩
theorem MapIs.made (w : World) : MapIs (w.alloc (.map #[] 0)) w.heap.size 0 0 fun _ => none :=
  ⟨.map [], World.ownsMap_made w _ _ _, rfl, fun j hj => ⟨rfl, rfl⟩⟩
theorem MapIs.look {w : World} {B c m : Nat} {f : Nat → Option Value} (h : MapIs w B c m f) {j : Nat} (hj : j < 1000) : (Instr.lookup 90 (.map (some B)) (.int .i64 (j : Nat)) false).run Tryd.prog w = .ok ((f j).getD nilV) w := by
  obtain ⟨D, h1, _, h3⟩ := h
  obtain ⟨v, ps, hrun, hv⟩ := h1.lookup keyL Tryd.underlying90 (zeroL w) codeR_nil (hkeyL hj)
  rw [hrun, codeR_inj hv (h3 j hj).2]
theorem MapIs.look_ok {w : World} {B c m : Nat} {f : Nat → Option Value} (h : MapIs w B c m f) {j : Nat} (hj : j < 1000) : (Instr.lookup 90 (.map (some B)) (.int .i64 (j : Nat)) true).run Tryd.prog w = .ok (.tuple #[(f j).getD nilV, .bool (f j).isSome]) w := by
  obtain ⟨D, h1, _, h3⟩ := h
  obtain ⟨v, ps, hrun, hv⟩ := h1.look_ok keyL Tryd.underlying90 (zeroL w) codeR_nil (hkeyL hj)
  rw [hrun, codeR_inj hv (h3 j hj).2, (h3 j hj).1]
theorem MapIs.len {w : World} {B c m : Nat} {f : Nat → Option Value} (h : MapIs w B c m f) (ty : TypeId) : (Builtin.len_ #[90] ty #[.map (some B)]).run Tryd.prog w = .ok (.int .i64 (m : Nat)) w := by
  obtain ⟨D, h1, h2, _⟩ := h
  rw [h1.len Tryd.underlying90 ty, h2]
def upd (f : Nat → Option Value) (i : Nat) (v : Option Value) : Nat → Option Value := fun j => if j = i then v else f j
theorem upd_at {f : Nat → Option Value} {i : Nat} {v : Option Value} : upd f i v i = v := if_pos rfl
theorem upd_ne {f : Nat → Option Value} {i j : Nat} {v : Option Value} (h : j ≠ i) : upd f i v j = f j := if_neg h
theorem lit_ne {i j : Nat} (h : j ≠ i) : (Lit.int .i64 (j : Nat)) ≠ Lit.int .i64 (i : Nat) := fun e => by
  simp only [Lit.int.injEq, true_and] at e
  omega
theorem MapIs.store {w : World} {B c m : Nat} {f : Nat → Option Value} (h : MapIs w B c m f) {i : Nat} (hi : i < 1000) (hc : c < maxLen) {v : Value} {d : DataW Unit} (hv : codeR v = some (d, [])) :
    ∃ w', (Instr.mapUpdate 90 (.map (some B)) (.int .i64 (i : Nat)) v).run Tryd.prog w = .ok () w' ∧ MapIs w' B (c + 1) (if (f i).isSome then m else m + 1) (upd f i (some v)) ∧ w.mapTurned w' B := by
  obtain ⟨D, h1, h2, h3⟩ := h
  obtain ⟨w', hrun, hown, ht⟩ := h1.store keyL Tryd.underlying90 hc (hkeyL hi) hv
  refine ⟨w', hrun, ⟨_, hown, ?_, fun j hj => ?_⟩, ht⟩
  · rw [size_put (h1.tidy keyL), (h3 i hi).1, h2]
  · by_cases e : j = i
    · subst e
      rw [upd_at, has_put_same h1.isMap (keyL.key (hkeyL hi)), atKey_put_same h1.isMap (keyL.key (hkeyL hi))]
      exact ⟨rfl, hv⟩
    · rw [upd_ne e, has_put_other (lit_ne e), atKey_put_other (lit_ne e)]
      exact h3 j hj
theorem MapIs.drop {w : World} {B c m : Nat} {f : Nat → Option Value} (h : MapIs w B c m f) {i : Nat} (hi : i < 1000) (ty : TypeId) :
    ∃ w', (Builtin.delete_ #[90, 3] ty #[.map (some B), .int .i64 (i : Nat)]).run Tryd.prog w = .ok (.tuple #[]) w' ∧ (∃ m', MapIs w' B c m' (upd f i none) ∧ ((f i).isSome = true → m' + 1 = m)) ∧ w.mapTurned w' B := by
  obtain ⟨D, h1, h2, h3⟩ := h
  obtain ⟨w', hrun, hown, ht⟩ := h1.drop keyL Tryd.underlying90 (hkeyL hi) ty
  refine ⟨w', hrun, ⟨_, ⟨_, hown, rfl, fun j hj => ?_⟩, fun hs => ?_⟩, ht⟩
  rotate_left
  · have h4 := size_del (k := .int .i64 (i : Nat)) (h1.tidy keyL)
    rw [(h3 i hi).1, hs, h2, if_pos rfl] at h4
    exact h4
  · by_cases e : j = i
    · subst e
      rw [upd_at, has_del_same, atKey_del_same]
      exact ⟨rfl, rfl⟩
    · rw [upd_ne e, has_del_other (lit_ne e), atKey_del_other (lit_ne e)]
      exact h3 j hj
/-! ### at the operation -/
section
variable (w : World) {ops : Array Oper} {rest : List Oper} {o : Oper} {a : Act} {Q : Exit → Act → World → Prop}
theorem wpList_store_z (hg : o.guard = none) (m x v : Operand) (hop : o.op = Op.mapUpdate 90 m x v) (B c n : Nat) (f : Nat → Option Value) (hm : a.eval m = .map (some B)) (hown : MapIs w B c n f) (hc : c < maxLen) (i : Nat) (hi : i < 1000) (val : Value) (hx : a.eval x = .int .i64 (i : Nat)) (hv : a.eval v = val)
    (d : DataW Unit) (hval : codeR val = some (d, [])) (hK : ∀ w', MapIs w' B (c + 1) (if (f i).isSome then n else n + 1) (upd f i (some val)) → w.grownBy w' (some B) → wpList Tryd.prog ops Q rest (a.put o.dst undef) w') : wpList Tryd.prog ops Q (o :: rest) a w := by
  refine wpList_plain hg fun K' hK' => ?_
  obtain ⟨w', hrun, r1, r2⟩ := hown.store hi hc hval
  unfold Oper.wp
  simp [execOp, hop, hm, hx, hv, hrun, Result.andThen]
  exact hK' _ _ (hK w' r1 r2.grown)
theorem wpList_drop_z (hg : o.guard = none) (m x : Operand) (hop : o.op = Op.call { callee := Callee.builtin Builtin.delete, args := #[m, x], argTypes := #[90, 3] }) (B c n : Nat) (f : Nat → Option Value) (hm : a.eval m = .map (some B)) (hown : MapIs w B c n f) (i : Nat) (hi : i < 1000) (hx : a.eval x = .int .i64 (i : Nat))
    (hK : ∀ w' m', MapIs w' B c m' (upd f i none) → ((f i).isSome = true → m' + 1 = n) → w.grownBy w' (some B) → wpList Tryd.prog ops Q rest (a.put o.dst (.tuple #[])) w') : wpList Tryd.prog ops Q (o :: rest) a w := by
  refine wpList_plain hg fun K' hK' => ?_
  obtain ⟨w', hrun, ⟨m', r1, r3⟩, r2⟩ := hown.drop hi o.type
  unfold Oper.wp
  simp [execOp, hop, resolve, invoke, builtin, hm, hx, hrun, Result.andThen]
  exact hK' _ _ (hK w' m' r1 r3 r2.grown)
end
end Go.Proofs.YtonlmhehddbhoaaDoor
set_option linter.unusedVariables false
namespace Go.Proofs.YtonlmhehddbhoaaDoor
open Go Go.RowKit Go.Deep
set_option maxHeartbeats 4000000 in
set_option maxRecDepth 20000 in
theorem waits_calls (j b B c m : Nat) (f : Nat → Option Value) (w : World) (hm : MapIs w B c m f) (hb : w.cell? ⟨b, 0, none⟩ = some (.map (some B))) (hj : j < 1000) :
    Calls Tryd.prog 90 #[.int .i64 (j : Nat), .pointer (some ⟨b, 0, none⟩)] w fun r w' => r = .returned (.bool (f j).isSome) ∧ Cls w w' := by
  have hl := hm.look_ok hj
  go_enter Tryd.func90, Tryd.ntmps90
  go_wp2_with fail
  go_ret
  refine ⟨ret_bool rfl, Cls.of ?_⟩
  repeat first | with_reducible exact Below.refl _ _ | with_reducible refine Below.setCell ?_ (by first | omega | (simp; done) | (simp; omega)) _ | with_reducible refine Below.alloc ?_ (by first | omega | (simp; done) | (simp; omega)) _ | with_reducible refine Below.drew ?_ | with_reducible refine Ext.on _ ?_ (by first | omega | (simp; done) | (simp; omega))
set_option maxHeartbeats 4000000 in
set_option maxRecDepth 20000 in
theorem indexW_calls (s : Sl) (tl : Nat → Nat) (bx B c m : Nat) (f : Nat → Option Value) (w : World) (hm : MapIs w B c m f) (hb : w.cell? ⟨bx, 0, none⟩ = some (.map (some B))) (hlt : bx < w.heap.size) (hs : SlAt w 1 s (intC fun i => ((tl i : Nat) : Int))) (ht : ∀ i, i < s.len → tl i < 1000) :
    Calls Tryd.prog 114 #[.slice s.a s.len s.cap, .func (.func 90) #[] #[.pointer (some ⟨bx, 0, none⟩)]] w fun r w' => r = .returned (.int .i64 (idx (fun i => (f (tl i)).isSome) 0 s.len)) ∧ Cls w w' := by
  have hle := hs.1
  have hmax := hs.2.1
  unfold maxLen at hmax
  have H := Lib.hid hs.2.2.2
  have HT := Lib.hid ht
  have HM := Lib.hid hm
  clear hs ht hm
  obtain ⟨sa, sn, sc⟩ := s
  simp only at hle hmax H HT
  go_enter Tryd.func114, Tryd.ntmps114
  go_wp2_with fail
  go_loopw [8] (fun i wr => ∃ j : Nat, j ≤ sn ∧ i = .int .i64 j ∧ idx (fun i => (f (tl i)).isSome) 0 sn = idx (fun i => (f (tl i)).isSome) j (sn - j) ∧ Cls w wr) (fun i _ => sn - (intOf i).toNat)
  case atStart => exact ⟨0, Nat.zero_le _, rfl, rfl, Cls.of (Below.refl _ _)⟩
  case round =>
    obtain ⟨j, hj, rfl, he, x, rfl⟩ := hrel
    have HE := Lib.hid he
    clear he
    have xs := x.size
    by_cases hltj : j < sn
    · obtain ⟨b, off, ha, hb2, hc⟩ := H.out j hltj
      subst ha
      have q0 := hc 0 (by omega)
      simp only [intC, List.getElem?_cons_zero, Nat.add_zero, Nat.mul_one] at q0
      have hS : Hid (sn - j = (sn - (j + 1)) + 1) := Lib.hid (by omega)
      have C1 : Hid (∀ W, Below w.heap.size w W → Calls Tryd.prog 90 #[.int .i64 (tl j : Nat), .pointer (some ⟨bx, 0, none⟩)] W fun r w' => r = .returned (.bool (f (tl j)).isSome) ∧ Cls W w') := Lib.hid (fun W hW => waits_calls (tl j) bx B c m f W (HM.out.later hW) (by rw [hW.cell (p := ⟨bx, 0, none⟩) hlt]; exact hb) (HT.out j hltj))
      clear hc
      cases hbb : (f (tl j)).isSome
      all_goals
        have HB := Lib.hid hbb
        rw [hbb] at C1
        clear hbb
        generalize tl j = tj at q0 C1
        go_wp2_with (go_at_call 90; ((with_reducible refine (Cls.call (C1.out _ x.below)).mono ?_); rintro r _ ⟨rfl, y, rfl⟩))
      · go_roundw
        case rel => exact ⟨j + 1, by omega, by go_num, by rw [HE.out, hS.out, idx_go HB.out], y, rfl⟩
        case measure => simp [intOf]; omega
      · go_ret
        exact ⟨ret_int (by rw [HE.out, hS.out, idx_stop HB.out]), y, rfl⟩
    · have hz : Hid (sn - j = 0) := Lib.hid (by omega)
      go_wp2_with fail
      go_ret
      exact ⟨ret_int (by rw [HE.out, hz.out]; rfl), x, rfl⟩
set_option maxHeartbeats 4000000 in
set_option maxRecDepth 20000 in
theorem containsW_calls (s : Sl) (tl : Nat → Nat) (bx B c m : Nat) (f : Nat → Option Value) (w : World) (hm : MapIs w B c m f) (hb : w.cell? ⟨bx, 0, none⟩ = some (.map (some B))) (hlt : bx < w.heap.size) (hs : SlAt w 1 s (intC fun i => ((tl i : Nat) : Int))) (ht : ∀ i, i < s.len → tl i < 1000) :
    Calls Tryd.prog 91 #[.slice s.a s.len s.cap, .func (.func 90) #[] #[.pointer (some ⟨bx, 0, none⟩)]] w fun r w' => r = .returned (.bool (decide (0 ≤ idx (fun i => (f (tl i)).isSome) 0 s.len))) ∧ Cls w w' := by
  have C1 := Lib.hid (indexW_calls s tl bx B c m f w hm hb hlt hs ht)
  clear hm hs ht
  generalize idx (fun i => (f (tl i)).isSome) 0 s.len = n at C1 ⊢
  go_enter Tryd.func91, Tryd.ntmps91
  go_wp2_with (go_at_call 114; ((with_reducible refine C1.out.mono ?_); rintro r _ ⟨rfl, y, rfl⟩))
  go_ret
  exact ⟨ret_bool (by simp), y, rfl⟩
end Go.Proofs.YtonlmhehddbhoaaDoor
set_option linter.unusedVariables false
namespace Go.Proofs.YtonlmhehddbhoaaDoor
open Go Go.RowKit Go.Deep
/-- Table i waits, but for none that waits. -/
def goodF (sl : Sl) (tb : Nat → Tb) (f : Nat → Option Value) (i : Nat) : Bool := (f i).isSome && !decide (0 ≤ idx (fun k => (f (tgN sl tb i k)).isSome) 0 (tb i).fs.len)
/-- The targets of each table that waits. -/
def RowsAt (sl : Sl) (tb : Nat → Tb) (f : Nat → Option Value) (s : Nat → Sl) (w : World) : Prop := ∀ j, j < sl.len → f j = none ∨ (f j = some (s j).v ∧ (s j).len = (tb j).fs.len ∧ SlAt w 1 (s j) (intC fun i => ((tgN sl tb j i : Nat) : Int)))
theorem RowsAt.later {sl : Sl} {tb : Nat → Tb} {f : Nat → Option Value} {s : Nat → Sl} {w w' : World} (h : RowsAt sl tb f s w) (hb : Below w.heap.size w w') : RowsAt sl tb f s w' := fun j hj => (h j hj).imp id fun ⟨h1, h2, h3⟩ => ⟨h1, h2, h3.later hb⟩
set_option maxHeartbeats 8000000 in
set_option maxRecDepth 20000 in
theorem ready_calls (sl : Sl) (tb : Nat → Tb) (s : Nat → Sl) (B c m : Nat) (f : Nat → Option Value) (w : World) (hm : MapIs w B c m f) (hr : RowsAt sl tb f s w) (hall : allT sl tb) (hn : sl.len ≤ 10) :
    Calls Tryd.prog 56 #[.int .i64 (sl.len : Nat), .map (some B)] w fun r w' => r = .returned (.tuple #[.int .i64 (at0 (idx (goodF sl tb f) 0 sl.len)), .bool (decide (0 ≤ idx (goodF sl tb f) 0 sl.len))]) ∧ Cls w w' := by
  have HM := Lib.hid hm
  have HR := Lib.hid hr
  have HA := Lib.hid hall
  have HL : Hid (∀ i k, i < sl.len → k < (tb i).fs.len → tgN sl tb i k < 1000) := Lib.hid (fun i k hi hk => by have := tg_lt (hall i hi k hk); omega)
  clear hm hr hall
  generalize hsn : sl.len = sn at hn
  go_enter Tryd.func56, Tryd.ntmps56
  go_wp2_with fail
  go_loopw [10] (fun i wr => ∃ j : Nat, j ≤ sn ∧ i = .int .i64 (j : Nat) ∧ idx (goodF sl tb f) 0 sn = idx (goodF sl tb f) j (sn - j) ∧ Cls (w.alloc (.cells #[.map (some B)] 90)) wr) (fun i _ => sn - (intOf i).toNat)
  case atStart => exact ⟨0, Nat.zero_le _, rfl, rfl, Cls.of (Below.refl _ _)⟩
  case round =>
    obtain ⟨j, hj, rfl, he, x, rfl⟩ := hrel
    have HE := Lib.hid he
    clear he
    have xs := x.size
    have xs2 : w.heap.size + 1 ≤ x.val.heap.size := by simpa using xs
    by_cases hltj : j < sn
    · have hS : Hid (sn - j = (sn - (j + 1)) + 1) := Lib.hid (by omega)
      have hG : Hid (goodF sl tb f j = ((f j).isSome && !decide (0 ≤ idx (fun k => (f (tgN sl tb j k)).isSome) 0 (tb j).fs.len))) := Lib.hid rfl
      have hbx : (w.alloc (.cells #[.map (some B)] 90)).cell? ⟨w.heap.size, 0, none⟩ = some (.map (some B)) := by rw [cell_of_row _ _ _ _ _ (0, 0) (heap_alloc_new w _)]; rfl
      have hb0 : Below w.heap.size w (w.alloc (.cells #[.map (some B)] 90)) := (Below.refl _ _).alloc (Nat.le_refl _) _
      have C1 : Hid (∀ W, Below (w.alloc (.cells #[.map (some B)] 90)).heap.size (w.alloc (.cells #[.map (some B)] 90)) W → Calls Tryd.prog 90 #[.int .i64 (j : Nat), .pointer (some ⟨w.heap.size, 0, none⟩)] W fun r w' => r = .returned (.bool (f j).isSome) ∧ Cls W w') :=
        Lib.hid (fun W hW => waits_calls j w.heap.size B c m f W ((HM.out.later hb0).later hW) (by rw [hW.cell (p := ⟨w.heap.size, 0, none⟩) (by simp)]; exact hbx) (by omega))
      rcases HR.out j (by omega) with hf | ⟨hf, hsl, hsat⟩
      · have hG2 : Hid (goodF sl tb f j = false) := Lib.hid (by rw [hG.out, hf]; rfl)
        rw [hf] at C1
        clear hbx hb0 hG hf
        go_wp2_with (go_at_call 90; ((with_reducible refine (Cls.call (C1.out _ x.below)).mono ?_); rintro r _ ⟨rfl, y, rfl⟩))
        go_roundw
        case rel => exact ⟨j + 1, by omega, by go_num, by rw [HE.out, hS.out, idx_go hG2.out], y, rfl⟩
        case measure => simp [intOf]; omega
      · have hsB : ∀ W, Below (w.alloc (.cells #[.map (some B)] 90)).heap.size (w.alloc (.cells #[.map (some B)] 90)) W → Calls Tryd.prog 91 #[.slice (s j).a (s j).len (s j).cap, .func (.func 90) #[] #[.pointer (some ⟨w.heap.size, 0, none⟩)]] W fun r w' => r = .returned (.bool (decide (0 ≤ idx (fun k => (f (tgN sl tb j k)).isSome) 0 (tb j).fs.len))) ∧ Cls W w' := fun W hW => by
          have := containsW_calls (s j) (tgN sl tb j) w.heap.size B c m f W ((HM.out.later hb0).later hW) (by rw [hW.cell (p := ⟨w.heap.size, 0, none⟩) (by simp)]; exact hbx) (Nat.lt_of_lt_of_le (by simp) hW.size) ((hsat.later hb0).later hW) (fun i hi => HL.out j i (by omega) (by omega))
          rw [hsl] at this
          rw [hsl]
          exact this
        have C2 := Lib.hid hsB
        have hG2 : Hid (goodF sl tb f j = !decide (0 ≤ idx (fun k => (f (tgN sl tb j k)).isSome) 0 (tb j).fs.len)) := Lib.hid (by rw [hG.out, hf]; rfl)
        have HK : Hid (∀ W, Below w.heap.size w W → (Instr.lookup 90 (.map (some B)) (.int .i64 (j : Nat)) false).run Tryd.prog W = .ok (.slice (s j).a (s j).len (s j).cap) W) := Lib.hid (fun W hW => by
          have := (HM.out.later hW).look (j := j) (by omega)
          rw [hf] at this
          exact this)
        rw [hf] at C1
        clear hbx hb0 hG hf hsl hsat hsB
        generalize s j = sj at C2 HK
        obtain ⟨ja, jn, jc⟩ := sj
        cases hbb : decide (0 ≤ idx (fun k => (f (tgN sl tb j k)).isSome) 0 (tb j).fs.len)
        all_goals
          rw [hbb] at C2 hG2
          clear hbb
          go_wp2_with (first | (go_at_call 90; ((with_reducible refine (Cls.call (C1.out _ x.below)).mono ?_); rintro r _ ⟨rfl, y, rfl⟩; have hk := HK.out y.val (by repeat first | with_reducible exact Below.refl _ _ | with_reducible refine Below.setCell ?_ (by first | omega | (simp; done) | (simp; omega)) _ | with_reducible refine Below.alloc ?_ (by first | omega | (simp; done) | (simp; omega)) _ | with_reducible refine Below.drew ?_ | with_reducible refine Ext.on _ ?_ (by first | omega | (simp; done) | (simp; omega))))) | (go_at_call 91; ((with_reducible refine (Cls.call (C2.out _ y.below)).mono ?_); rintro r _ ⟨rfl, z, rfl⟩)))
        · go_ret2
          have e : idx (goodF sl tb f) 0 sn = (j : Nat) := by rw [HE.out, hS.out, idx_stop hG2.out]
          have e2 : at0 (j : Nat) = ((j : Nat) : Int) := if_neg (by omega)
          have e3 : decide ((0 : Int) ≤ (j : Nat)) = true := by simp
          rw [e, e2, e3]
          refine ⟨rfl, Cls.of ?_⟩
          repeat first | with_reducible exact Below.refl _ _ | with_reducible refine Below.setCell ?_ (by first | omega | (simp; done) | (simp; omega)) _ | with_reducible refine Below.alloc ?_ (by first | omega | (simp; done) | (simp; omega)) _ | with_reducible refine Below.drew ?_ | with_reducible refine Ext.on _ ?_ (by first | omega | (simp; done) | (simp; omega))
        · go_roundw
          case rel => exact ⟨j + 1, by omega, by go_num, by rw [HE.out, hS.out, idx_go hG2.out], z, rfl⟩
          case measure => simp [intOf]; omega
    · have hz : Hid (sn - j = 0) := Lib.hid (by omega)
      go_wp2_with fail
      go_ret2
      have e : idx (goodF sl tb f) 0 sn = -1 := by rw [HE.out, hz.out]; rfl
      rw [e]
      refine ⟨rfl, Cls.of ?_⟩
      repeat first | with_reducible exact Below.refl _ _ | with_reducible refine Below.setCell ?_ (by first | omega | (simp; done) | (simp; omega)) _ | with_reducible refine Below.alloc ?_ (by first | omega | (simp; done) | (simp; omega)) _ | with_reducible refine Below.drew ?_ | with_reducible refine Ext.on _ ?_ (by first | omega | (simp; done) | (simp; omega))
end Go.Proofs.YtonlmhehddbhoaaDoor
set_option linter.unusedVariables false
namespace Go.Proofs.YtonlmhehddbhoaaDoor
open Go Go.RowKit Go.Deep
theorem SlAt.tp {T k : Nat} {w w' : World} {s : Sl} {c : Nat → List Value} (h : SlAt w k s c) (hb : Tp T w w') (hT : ∀ b off, s.a = some ⟨b, off, none⟩ → b ≠ T) : SlAt w' k s c := by
  refine ⟨h.1, h.2.1, h.2.2.1, fun i hi => ?_⟩
  obtain ⟨b, off, ha, hlt, hc⟩ := h.2.2.2 i hi
  exact ⟨b, off, ha, Nat.lt_of_lt_of_le hlt hb.size, fun j hj => by rw [hb.cell _ hlt (hT b off ha)]; exact hc j hj⟩
theorem Tp.turn {T : Nat} {a w w' : World} (h : Tp T a w) (hg : w.grownBy w' (some T)) : Tp T a w' :=
  ⟨hg.os.trans h.os, hg.tape.trans h.tape, hg.output.trans h.output, Nat.le_trans h.size hg.size, fun k hk hT => (hg.block k (Nat.lt_of_lt_of_le hk h.size) (fun e => hT (Option.some.inj e))).trans (h.block k hk hT)⟩
theorem own_turn {T : Nat} {w w' : World} {base size n : Nat} {e : TypeId} {v : Value} {xs : List Value} (h : w.ownsRow base e size v n xs) (hg : w.grownBy w' (some T)) (hT : ∀ k, v.ownBlock = some k → k ≠ T) : w'.ownsRow base e size v n xs := by
  refine ⟨h.1, h.2.imp id ?_⟩
  rintro ⟨g, cap, cur, hv, hg', hh, rest⟩
  exact ⟨g, cap, cur, hv, hg', (hg.block g (Array.getElem?_eq_some_iff.1 hh).1 (fun e => hT g (by rw [hv]; rfl) (Option.some.inj e))).trans hh, rest⟩
/-- A row is not a map. -/
theorem own_not_map {w : World} {base size n B c m : Nat} {e : TypeId} {v : Value} {xs : List Value} {f : Nat → Option Value} (h : w.ownsRow base e size v n xs) (hm : MapIs w B c m f) : ∀ k, v.ownBlock = some k → k ≠ B := by
  rintro k hk rfl
  obtain ⟨D, ⟨es, clock, hb, _⟩, _⟩ := hm
  rcases h.2 with ⟨rfl, _⟩ | ⟨g, cap, cur, rfl, _, hh, _⟩
  · simp [Value.ownBlock] at hk
  · simp [Value.ownBlock] at hk
    subst hk
    rw [hb] at hh
    cases hh
theorem sl_not_map {w : World} {B c m : Nat} {s : Sl} {g : Nat → Int} {f : Nat → Option Value} (h : SlAt w 1 s (intC g)) (hl : 0 < s.len) (hm : MapIs w B c m f) : ∀ b off, s.a = some ⟨b, off, none⟩ → b ≠ B := by
  rintro b off ha rfl
  obtain ⟨D, ⟨es, clock, hb, _⟩, _⟩ := hm
  obtain ⟨b', o', ha', _, hc⟩ := h.2.2.2 0 hl
  rw [ha] at ha'
  simp only [Option.some.injEq, Addr.mk.injEq, and_true] at ha'
  obtain ⟨rfl, rfl⟩ := ha'
  have := hc 0 (by omega)
  simp [World.cell?, hb, intC] at this
theorem SlAt.turn {w w' : World} {B c m : Nat} {s : Sl} {g : Nat → Int} {f : Nat → Option Value} (h : SlAt w 1 s (intC g)) (hm : MapIs w B c m f) (ht : Tp B w w') : SlAt w' 1 s (intC g) := by
  by_cases hl : 0 < s.len
  · exact h.tp ht (sl_not_map h hl hm)
  · exact ⟨h.1, h.2.1, h.2.2.1, fun i hi => absurd hi (by omega)⟩
theorem RowsAt.turn {sl : Sl} {tb : Nat → Tb} {f f' : Nat → Option Value} {s : Nat → Sl} {w w' : World} {B c m : Nat} (h : RowsAt sl tb f s w) (hm : MapIs w B c m f) (ht : Tp B w w') (hf : ∀ j, j < sl.len → f' j = f j ∨ f' j = none) : RowsAt sl tb f' s w' := fun j hj => by
  rcases hf j hj with e | e
  · rw [e]
    exact (h j hj).imp id fun ⟨h1, h2, h3⟩ => ⟨h1, h2, h3.turn hm ht⟩
  · exact .inl e
end Go.Proofs.YtonlmhehddbhoaaDoor
set_option linter.unusedVariables false
namespace Go.Proofs.YtonlmhehddbhoaaDoor
open Go Go.RowKit Go.Deep
theorem infoI_z : (Tryd.prog.info? 3).map (fun i => (i.zero, i.size, i.bytes)) = some (some (.int .i64 0), 1, 8) := by kernel_rfl
theorem int_one_z (n : Int) : ∀ u ∈ [Value.int .i64 n], u.oneCell' = true := by
  intro u h
  simp only [List.mem_cons, List.not_mem_nil, or_false] at h
  rcases h with rfl; rfl
theorem cells_new_z {b : Nat} (w : World) (l : List Value) (t : TypeId) (hb : b = w.heap.size) : ∀ j u, l[j]? = some u → (w.alloc (.cells l.toArray t)).cell? ((⟨b, 0, none⟩ : Addr).add j) = some u := by
  subst hb
  intro j u h
  have hadd : (⟨w.heap.size, 0, none⟩ : Addr).add j = ⟨w.heap.size, j, none⟩ := by unfold Addr.add; split <;> simp_all
  rw [hadd, cell_of_row _ _ _ l.toArray t (0, 0) (heap_alloc_new w _)]
  simpa using h
theorem own_later_z {w w' : World} {base size n : Nat} {e : TypeId} {v : Value} {xs : List Value} (h : w.ownsRow base e size v n xs) (hb : Below w.heap.size w w') : w'.ownsRow base e size v n xs := by
  refine ⟨h.1, h.2.imp id ?_⟩
  rintro ⟨g, cap, cur, hv, hg, hh, rest⟩
  exact ⟨g, cap, cur, hv, hg, (hb.block g (Array.getElem?_eq_some_iff.1 hh).1).trans hh, rest⟩
def flatN (l : List Nat) : List Value := l.map fun n => .int .i64 (n : Nat)
theorem flatN_go (l : List Nat) (n : Nat) : flatN (l ++ [n]) = flatN l ++ [.int .i64 (n : Nat)] := by simp [flatN]
theorem sl_ofN {w : World} {base n : Nat} {v : Value} {l : List Nat} (h : w.ownsRow base 3 1 v n (flatN l)) (hl : l.length = n) : ∃ s : Sl, v = s.v ∧ s.len = n ∧ SlAt w 1 s (intC fun i => ((l.getD i 0 : Nat) : Int)) := by
  subst hl
  rcases h.2 with ⟨rfl, h0⟩ | ⟨g, cap, cur, rfl, hb, hh, hn, hc, hr, ht⟩
  · exact ⟨Sl.z, rfl, h0.symm, ⟨Nat.le_refl _, Nat.zero_le _, fun _ => ⟨rfl, rfl⟩, fun i hi => absurd hi (by simp [Sl.z])⟩⟩
  · refine ⟨⟨some ⟨g, 0, none⟩, l.length, cap⟩, rfl, rfl, ⟨hn, hc, (fun h => by cases h), fun i hi => ⟨g, 0, rfl, (Array.getElem?_eq_some_iff.1 hh).1, fun j hj => ?_⟩⟩⟩
    have hcell := World.ownsRow.cells h (g := g) rfl
    have hadd : ∀ j, (⟨g, 0, none⟩ : Addr).add j = ⟨g, 0 + j, none⟩ := fun j => by unfold Addr.add; split <;> simp_all
    have c0 := hcell i (.int .i64 ((l.getD i 0 : Nat) : Int)) (by
      have hi' : i < l.length := hi
      simp [flatN, List.getD, hi'])
    rw [hadd] at c0
    obtain rfl : j = 0 := by omega
    rw [Nat.mul_one, Nat.add_zero, c0]; rfl
theorem SlAt.congr_z {w : World} {s : Sl} {g g' : Nat → Int} (h : SlAt w 1 s (intC g)) (hg : ∀ i, i < s.len → g i = g' i) : SlAt w 1 s (intC g') := by
  refine ⟨h.1, h.2.1, h.2.2.1, fun i hi => ?_⟩
  obtain ⟨b, off, ha, hlt, hc⟩ := h.2.2.2 i hi
  exact ⟨b, off, ha, hlt, fun j hj => by rw [hc j hj]; simp only [intC, hg i hi]⟩
end Go.Proofs.YtonlmhehddbhoaaDoor
