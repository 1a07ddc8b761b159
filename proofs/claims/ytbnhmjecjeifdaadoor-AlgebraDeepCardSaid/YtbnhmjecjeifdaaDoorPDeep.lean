/-
  AlgebraDeep: the law returns true for every number below 256, and its argument reads as it did; the card: the listed variables hold what the program's text lays. No condition.
-/
import Derived.Test.YtbnhmjecjeifdaaDoorCards
import Derived.Test.YtbnhmjecjeifdaaDoorTie
import Derived.Test.YtbnhmjecjeifdaaDoorDLaw
import Derived.WalkKit
import Derived.ProofKit
import Derived.LaidMore
import Derived.OpenShut
import Derived.ShutString
import Derived.ChangeOld
import Derived.Below
import Derived.Lib.SmallJoins
import Derived.Lib.LaidTab
import Derived.Stop.Joined
namespace Go.Proofs.YtbnhmjecjeifdaaDoor.algebraDeep
open Go.ChangeShapes Go.WideShapes Go.ChangeAt Go.RowKit Go.Joins Go.Deep
open Go.ChangeMaps (open_string shut_string)
set_option linter.unusedVariables false

theorem own : ownKnob Tryd.prog.godebug = none := by kernel_rfl
theorem laidOut : laidOutB Tryd.prog = true := by kernel_rfl
theorem gOps : Tryd.prog.globalNamed "querylab/algebra.operators" = some 0 := by kernel_rfl
theorem tOps : (Tryd.prog.globals[0]?).map (·.type) = some 173 := by kernel_rfl
theorem cellsOp : Tryd.prog.cellsOf 143 = 3 := by kernel_rfl
theorem cellsOps : Tryd.prog.cellsOf 173 = 33 := by kernel_rfl
def wordL : List (List UInt8) := [[], [115, 99, 97, 110], [118, 97, 108, 117, 101, 115], [115, 101, 108, 101, 99, 116], [112, 114, 111, 106, 101, 99, 116], [106, 111, 105, 110], [117, 110, 105, 111, 110], [101, 120, 99, 101, 112, 116], [105, 110, 116, 101, 114, 115, 101, 99, 116], [100, 105, 115, 116, 105, 110, 99, 116], [103, 114, 111, 117, 112]]
/-- A row of the table as data. -/
def rowD (i : Nat) : DataW Unit := .agg [.lit (.string (wordL.getD i [])), .lit (.int .i64 (hasL.getD i 0)), .lit (.int .i64 (kidsL.getD i 0))]
theorem opsData : (Rows.laid_querylab_algebra_operators : DataW Unit) = .agg ((List.range 11).map rowD) := by kernel_rfl
theorem list3 {α : Type} {l : List α} (h : l.length = 3) : ∃ a b c, l = [a, b, c] := by
  match l, h with
  | [a, b, c], _ => exact ⟨a, b, c, rfl⟩
section
variable {H : Type} {enc : TypeId × Value → H} {w : World} {base : Nat} {spare : Nat → Bool} {held : Bool}
theorem trod_struct3 {P : Program} {t : TypeId} {f0 f1 f2 : Field} {fuel : Nat} {cs : List Value} {x : DataW H × List MemPlace} (ht : P.underlying t = some (.struct #[f0, f1, f2])) (hone : oneCellFields P #[f0, f1, f2] = true) (hC : P.cellsOf t = 3)
    (h : DataW.trod enc P w base spare held fuel t cs = some x) : ∃ c0 c1 c2 y0 y1 y2 n, x.1 = .agg [y0.1, y1.1, y2.1] ∧ cs = [c0, c1, c2] ∧ DataW.trod enc P w base spare held n f0.type [c0] = some y0 ∧ DataW.trod enc P w base spare held n f1.type [c1] = some y1 ∧
      DataW.trod enc P w base spare held n f2.type [c2] = some y2 := by
  obtain ⟨xs, n, hn, hx, hl, hlen, hg⟩ := DataW.trod_struct ht h
  obtain ⟨c0, c1, c2, rfl⟩ := list3 (hl.trans hC)
  obtain ⟨o0, k0⟩ := hone_of hone 0 f0 rfl
  obtain ⟨o1, k1⟩ := hone_of hone 1 f1 rfl
  obtain ⟨o2, k2⟩ := hone_of hone 2 f2 rfl
  match xs, hlen with
  | [y0, y1, y2], _ =>
    exact ⟨c0, c1, c2, y0, y1, y2, n, by rw [hx]; rfl, rfl, by simpa [o0, k0] using hg 0 f0 rfl, by simpa [o1, k1] using hg 1 f1 rfl, by simpa [o2, k2] using hg 2 f2 rfl⟩
end
/-- What the row's list gives: the table of the operators. -/
theorem of_laid {W : World} (h0 : laidMetH Tryd.prog Rows.algebraDeepRow.laid W) : OpT W := by
  rw [MakeChecks.laidMetH_plain _ _ _ (by kernel_rfl)] at h0
  have h1 : laidMet Tryd.prog [("querylab/expression.operations", Rows.laid_querylab_expression_operations), ("querylab/algebra.operators", Rows.laid_querylab_algebra_operators)] W := h0
  rw [opsData] at h1
  obtain ⟨ps, ⟨_, _, _, _, _, _, _, _, _, _, ⟨g', t', cs, fuel, p, q, hg', ht', hvar, hd, _, _⟩, _⟩, _⟩ := h1
  obtain rfl := Option.some.inj (gOps.symm.trans hg')
  obtain rfl := Option.some.inj (tOps.symm.trans ht')
  obtain ⟨xs, m, _, hx, hcl, hxl, hel⟩ := DataW.trod_array Tryd.underlying173 hd
  have hxs : xs.map (·.1) = (List.range 11).map rowD := by
    have := congrArg Prod.fst hx
    simpa using this.symm
  have hv : ∀ o, W.cell? ⟨0, o, none⟩ = cs.toList[o]? := fun o => by
    have := World.var?_cell gOps hvar o
    simpa using this
  have hW : 0 < W.heap.size := by
    rw [cellsOps] at hcl
    have h1 := hv 0
    rw [List.getElem?_eq_getElem (by omega)] at h1
    exact cells_below h1
  refine ⟨hW, fun i hi => ?_⟩
  have hxi : xs[i]? = some (xs[i]'(by omega)) := List.getElem?_eq_getElem (by omega)
  have h2 := hel i hi
  rw [cellsOp, hxi] at h2
  have h3 : (xs[i]'(by omega)).1 = rowD i := by
    have h4 : (xs.map (·.1))[i]? = ((List.range 11).map rowD)[i]? := by rw [hxs]
    simpa [hxi, hi] using h4
  obtain ⟨c0, c1, c2, y0, y1, y2, n, hxy, hcs, t0, t1, t2⟩ := trod_struct3 Tryd.underlying143 (by kernel_rfl) cellsOp h2
  rw [h3] at hxy
  obtain ⟨k0, e0, z0, _⟩ := DataW.trod_string Tryd.underlying9 t0
  obtain ⟨k1, e1, z1, _⟩ := DataW.trod_int Tryd.underlying3 t1
  obtain ⟨k2, e2, z2, _⟩ := DataW.trod_int Tryd.underlying3 t2
  subst z0 z1 z2
  simp only [List.cons.injEq, and_true] at e0 e1 e2
  subst e0 e1 e2
  simp only [rowD, DataW.agg.injEq, List.cons.injEq, DataW.lit.injEq, Lit.string.injEq, Lit.int.injEq, true_and, and_true] at hxy
  obtain ⟨w0, w1, w2⟩ := hxy
  have hat : ∀ j, j < 3 → cs.toList[i * 3 + j]? = [Value.string k0, .int .i64 k1, .int .i64 k2][j]? := fun j hj => by
    rw [← hcs, List.getElem?_take, if_pos hj, List.getElem?_drop]
  refine ⟨⟨k0, ?_⟩, ?_, ?_⟩
  · rw [hv, show i * 3 = i * 3 + 0 from rfl, hat 0 (by omega)]; rfl
  · rw [hv, hat 1 (by omega), w1]; rfl
  · rw [hv, hat 2 (by omega), w2]; rfl
theorem door_met (os : Os) (args : Array Value) : laidMetH Tryd.prog Rows.algebraDeepRow.laid ((World.doorLaid Tryd.prog 72 os).forCall (fun _ _ => 0) ⟨#[], args, []⟩).memory :=
  laidMetH_of_parts3 (fuel := 8) (laidMet_of_run' 8 (by kernel_rfl) (by kernel_rfl)) (by kernel_rfl) (by kernel_rfl)
theorem of_u8' {n : Int} (h : (Lit.int .u8 n).wf = true) : 0 ≤ n ∧ n < 256 := by
  have h2 : IntKind.u8.min ≤ n ∧ n ≤ IntKind.u8.max := by simpa [Lit.wf] using h
  have e1 : IntKind.u8.min = 0 := by decide
  have e2 : IntKind.u8.max = 255 := by decide
  omega
theorem of_u8 {m : Nat} (h : (Lit.int .u8 (m : Nat)).wf = true) : 0 ≤ m ∧ m < 256 := by
  have := of_u8' h
  omega
set_option maxRecDepth 100000 in
theorem lifted (os : Os) (started : os.Started) (H : Type) (enc : TypeId × Value → H) :
    ReturnsInHanded {} Tryd.checked os 8 .any (fun w args => (Rows.algebraDeepSpec.pre enc Tryd.prog Tryd.f8 [] false w args ∧ laidMetH Tryd.prog Rows.algebraDeepRow.laid w) ∧ sizedMet enc Tryd.prog Tryd.f8 (OpenSpec.ofChange Rows.algebraDeepSpec) false w args)
      (Rows.algebraDeepSpec.post enc Tryd.prog Tryd.f8 false true false false) := by
  refine returnsInHanded_of_change_and (C := Tryd.checked) (X := fun w _ => laidMetH Tryd.prog Rows.algebraDeepRow.laid w) (fun _ _ _ hh h => h.of_heap hh) own started (by kernel_rfl) Tryd.func8
    (ChangeSpec.witness_shaped (enc := enc) (C := Tryd.checked) (os := os) (X := fun w _ => laidMetH Tryd.prog Rows.algebraDeepRow.laid w) false (World.doorLaid Tryd.prog 72 os) #[.int .u8 0] 8 rfl (World.shaped_of_RefB (by kernel_rfl) (by kernel_rfl)) (by kernel_rfl) (by kernel_rfl) (by kernel_rfl) (door_met os _)) ?_
  intro W base args ds gs before hval0 hW _ _ hL _
  have hval : ∀ (j : Nat) t v, Tryd.f8.params[j]? = some t → args[j]? = some v → Value.okWide Tryd.prog W .any base t v := hval0
  have hW' := hW
  obtain ⟨p, q, hA0, hV, rfl, hfz, hnd⟩ := hW
  have hA : DataW.TrodAll enc Tryd.prog W 0 (fun _ => true) true Tryd.f8.params.toList args.toList ds p := hA0
  rw [Tryd.params8] at hA hval
  obtain ⟨v0, vs0, d0, ds0, p0, q0, hargs, rfl, rfl, h0, r0⟩ := trodAll_cons hA
  obtain ⟨rfl, rfl, rfl⟩ := trodAll_nil r0
  obtain rfl : args = #[v0] := by cases args; simp_all
  obtain ⟨rfl, rfl⟩ := trodVars_none hV
  have k0 := h0
  have lt0 : ∀ x ∈ p0, x.block < W.heap.size := by obtain ⟨m, hm⟩ := k0; exact DataW.trod_lt m _ _ _ hm
  obtain ⟨a0, rfl, _, _, w0⟩ := open_int Tryd.underlying5 (hval 0 5 v0 rfl rfl) h0
  clear hA0 hval0
  have hO := of_laid hL
  obtain ⟨m0, rfl⟩ : ∃ m : Nat, a0 = (m : Nat) := ⟨a0.toNat, by have := (of_u8' w0).1; omega⟩
  refine (algebraDeep_walk _ (of_u8 w0).2 W hO).mono fun e W' ⟨he, bel⟩ => ?_
  subst he
  exact ⟨_, rfl, _, _, _, [], _, [], hW', trodAll_mk1 (shut_bool Tryd.underlying4 _), (trodAll_cons_mk (Below.trod laidOut (by kernel_rfl) (of_decide_eq_true (by kernel_rfl)) k0 bel lt0) trodAll_mk0), rfl, bel.frame _, fun h => by cases h⟩

theorem said : Rows.AlgebraDeepSaid :=
  OpenClaim.holds_of_wide 8 Tryd.f8 rfl rfl rfl rfl rfl rfl rfl ⟨rfl, rfl, rfl, rfl, rfl⟩ rfl rfl rfl rfl rfl (by kernel_rfl) Tryd.func8 (by kernel_rfl)
    (of_decide_eq_true (by kernel_rfl)) (by unfold Func.isWrapper; first | (rw [if_pos (by decide +kernel)]; kernel_rfl) | (rw [if_neg (by decide +kernel)]; exact ⟨rfl, rfl⟩))
    (fun os started H enc _ => lifted os started H enc)

theorem plain (f : FuncId) (fn : Func) (hf : Tryd.pinned.checked.prog.funcNamed "querylab/querylablaw04.AlgebraDeep" = some f) (hfn : Tryd.pinned.checked.prog.funcs[f]? = some fn) :
    false = Tryd.pinned.checked.prog.looks [] ∧ ∀ (j : Nat) t, fn.params[j]? = some t → Tryd.pinned.checked.prog.wantsStandIn t = false := by
  obtain rfl : f = 8 := Option.some.inj ((show Tryd.prog.funcNamed "querylab/querylablaw04.AlgebraDeep" = some 8 by kernel_rfl).symm.trans hf) |>.symm
  obtain rfl : fn = Tryd.f8 := (Option.some.inj (Tryd.func8.symm.trans hfn)).symm
  refine ⟨by kernel_rfl, fun j t ht => ?_⟩
  rw [Tryd.params8] at ht
  have hm : t ∈ [5] := by simpa using Array.mem_of_getElem? ht
  have hall : ([5].all fun u => !Tryd.prog.wantsStandIn u) = true := by kernel_rfl
  exact (show Tryd.prog.wantsStandIn t = false by simpa using List.all_eq_true.1 hall t hm)

theorem card : Rows.AlgebraDeepCardSaid :=
  Claim7.holds_tied_plain_at .later [] _ _ _ _ said (fun _ h => by cases h) (by kernel_rfl) (fun _ h => by cases h) algebraDeep_row_tie rfl ⟨rfl, rfl⟩ (by kernel_rfl) rfl plain (by kernel_rfl)
#print axioms card
end Go.Proofs.YtbnhmjecjeifdaaDoor.algebraDeep
