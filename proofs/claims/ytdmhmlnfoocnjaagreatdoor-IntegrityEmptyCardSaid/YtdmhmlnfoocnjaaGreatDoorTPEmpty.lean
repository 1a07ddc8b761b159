/-
  IntegrityEmpty.
-/
import Derived.Test.YtdmhmlnfoocnjaaGreatDoorCards
import Derived.Test.YtdmhmlnfoocnjaaGreatDoorTie
import Derived.Test.YtdmhmlnfoocnjaaGreatDoorK53
import Derived.WalkKit
import Derived.ProofKit
import Derived.LaidMore
import Derived.OpenShut
import Derived.ShutString
import Derived.ChangeOld
import Derived.Below
import Derived.Lib.SmallJoins
import Derived.Lib.LaidTab
import Derived.Stop.Joined
namespace Go.Proofs.YtdmhmlnfoocnjaaGreatDoor.integrityEmpty
open Go.ChangeShapes Go.WideShapes Go.ChangeAt Go.RowKit Go.Joins Go.Deep
open Go.ChangeMaps (open_string shut_string)
set_option linter.unusedVariables false

theorem own : ownKnob Tryz.prog.godebug = none := by kernel_rfl
theorem laidOut : laidOutB Tryz.prog = true := by kernel_rfl
theorem gOps : Tryz.prog.globalNamed "querylab/expression.operations" = some 0 := by kernel_rfl
theorem tOps : (Tryz.prog.globals[0]?).map (·.type) = some 169 := by kernel_rfl
theorem cellsOp : Tryz.prog.cellsOf 155 = 5 := by kernel_rfl
theorem cellsOps : Tryz.prog.cellsOf 169 = 145 := by kernel_rfl
def rowD (r : ORow) : DataW Unit := .agg [.lit (.string r.word), .lit (.int .i64 r.has), .lit (.int .i64 r.first), .lit (.int .i64 r.others), .lit (.int .i64 r.gives)]
theorem opsData : (Rows.laid_querylab_expression_operations : DataW Unit) = .agg (opsRows.map rowD) := by kernel_rfl
theorem list5 {α : Type} {l : List α} (h : l.length = 5) : ∃ a b c d e, l = [a, b, c, d, e] := by
  match l, h with
  | [a, b, c, d, e], _ => exact ⟨a, b, c, d, e, rfl⟩
section
variable {H : Type} {enc : TypeId × Value → H} {w : World} {base : Nat} {spare : Nat → Bool} {held : Bool}
theorem trod_struct5 {P : Program} {t : TypeId} {f0 f1 f2 f3 f4 : Field} {fuel : Nat} {cs : List Value} {x : DataW H × List MemPlace} (ht : P.underlying t = some (.struct #[f0, f1, f2, f3, f4])) (hone : oneCellFields P #[f0, f1, f2, f3, f4] = true) (hC : P.cellsOf t = 5)
    (h : DataW.trod enc P w base spare held fuel t cs = some x) : ∃ c0 c1 c2 c3 c4 y0 y1 y2 y3 y4 n, x.1 = .agg [y0.1, y1.1, y2.1, y3.1, y4.1] ∧ cs = [c0, c1, c2, c3, c4] ∧ DataW.trod enc P w base spare held n f0.type [c0] = some y0 ∧ DataW.trod enc P w base spare held n f1.type [c1] = some y1 ∧
      DataW.trod enc P w base spare held n f2.type [c2] = some y2 ∧ DataW.trod enc P w base spare held n f3.type [c3] = some y3 ∧ DataW.trod enc P w base spare held n f4.type [c4] = some y4 := by
  obtain ⟨xs, n, hn, hx, hl, hlen, hg⟩ := DataW.trod_struct ht h
  obtain ⟨c0, c1, c2, c3, c4, rfl⟩ := list5 (hl.trans hC)
  obtain ⟨o0, k0⟩ := hone_of hone 0 f0 rfl
  obtain ⟨o1, k1⟩ := hone_of hone 1 f1 rfl
  obtain ⟨o2, k2⟩ := hone_of hone 2 f2 rfl
  obtain ⟨o3, k3⟩ := hone_of hone 3 f3 rfl
  obtain ⟨o4, k4⟩ := hone_of hone 4 f4 rfl
  match xs, hlen with
  | [y0, y1, y2, y3, y4], _ =>
    exact ⟨c0, c1, c2, c3, c4, y0, y1, y2, y3, y4, n, by rw [hx]; rfl, rfl, by simpa [o0, k0] using hg 0 f0 rfl, by simpa [o1, k1] using hg 1 f1 rfl, by simpa [o2, k2] using hg 2 f2 rfl, by simpa [o3, k3] using hg 3 f3 rfl, by simpa [o4, k4] using hg 4 f4 rfl⟩
end
theorem bytes_of {s : ByteArray} {l : List UInt8} (h : s.data.toList = l) : s = ⟨l.toArray⟩ := by
  cases s; subst h; simp
theorem of_laid {W : World} (h0 : laidMetH Tryz.prog Rows.integrityEmptyRow.laid W) : OpsTab W := by
  rw [MakeChecks.laidMetH_plain _ _ _ (by kernel_rfl)] at h0
  have h1 : laidMet Tryz.prog (("querylab/expression.operations", Rows.laid_querylab_expression_operations) :: _) W := h0
  rw [opsData] at h1
  obtain ⟨ps, ⟨g', t', cs, fuel, p, q, hg', ht', hvar, hd, _, _⟩, _⟩ := h1
  obtain rfl := Option.some.inj (gOps.symm.trans hg')
  obtain rfl := Option.some.inj (tOps.symm.trans ht')
  obtain ⟨xs, m, _, hx, hcl, hxl, hel⟩ := DataW.trod_array Tryz.underlying169 hd
  have hxs : xs.map (·.1) = opsRows.map rowD := by
    have := congrArg Prod.fst hx
    simpa using this.symm
  have hv : ∀ o, W.cell? ⟨0, o, none⟩ = cs.toList[o]? := fun o => by
    have := World.var?_cell gOps hvar o
    simpa using this
  have hW : 0 < W.heap.size := by
    rw [cellsOps] at hcl
    have h1 := hv 0
    rw [List.getElem?_eq_getElem (by omega)] at h1
    exact cells_below h1
  refine ⟨hW, fun i hi => ?_⟩
  have hxi : xs[i]? = some (xs[i]'(by omega)) := List.getElem?_eq_getElem (by omega)
  have h2 := hel i hi
  rw [cellsOp, hxi] at h2
  have h3 : (xs[i]'(by omega)).1 = rowD (oRow i) := by
    have h4 : (xs.map (·.1))[i]? = (opsRows.map rowD)[i]? := by rw [hxs]
    have hlo : i < opsRows.length := hi
    simp only [List.getElem?_map, hxi, Option.map_some, List.getElem?_eq_getElem hlo, Option.some.injEq] at h4
    rw [h4]; unfold oRow; simp [List.getD, hlo]
  obtain ⟨c0, c1, c2, c3, c4, y0, y1, y2, y3, y4, n, hxy, hcs, t0, t1, t2, t3, t4⟩ := trod_struct5 Tryz.underlying155 (by kernel_rfl) cellsOp h2
  rw [h3] at hxy
  obtain ⟨k0, e0, z0, _⟩ := DataW.trod_string Tryz.underlying9 t0
  obtain ⟨k1, e1, z1, _⟩ := DataW.trod_int Tryz.underlying3 t1
  obtain ⟨k2, e2, z2, _⟩ := DataW.trod_int Tryz.underlying3 t2
  obtain ⟨k3, e3, z3, _⟩ := DataW.trod_int Tryz.underlying3 t3
  obtain ⟨k4, e4, z4, _⟩ := DataW.trod_int Tryz.underlying3 t4
  subst z0 z1 z2 z3 z4
  simp only [List.cons.injEq, and_true] at e0 e1 e2 e3 e4
  subst e0 e1 e2 e3 e4
  simp only [rowD, DataW.agg.injEq, List.cons.injEq, DataW.lit.injEq, Lit.string.injEq, Lit.int.injEq, true_and, and_true] at hxy
  obtain ⟨w0, w1, w2, w3, w4⟩ := hxy
  have hat : ∀ j, j < 5 → cs.toList[i * 5 + j]? = [Value.string k0, .int .i64 k1, .int .i64 k2, .int .i64 k3, .int .i64 k4][j]? := fun j hj => by
    rw [← hcs, List.getElem?_take, if_pos hj, List.getElem?_drop]
  refine ⟨?_, ?_, ?_, ?_, ?_⟩
  · rw [hv, show i * 5 = i * 5 + 0 from rfl, hat 0 (by omega), bytes_of w0.symm]; rfl
  · rw [hv, hat 1 (by omega), w1]; rfl
  · rw [hv, hat 2 (by omega), w2]; rfl
  · rw [hv, hat 3 (by omega), w3]; rfl
  · rw [hv, hat 4 (by omega), w4]; rfl
theorem door_met (os : Os) (args : Array Value) : laidMetH Tryz.prog Rows.integrityEmptyRow.laid ((World.doorLaid Tryz.prog 42 os).forCall (fun _ _ => 0) ⟨#[], args, []⟩).memory :=
  laidMetH_of_parts3 (fuel := 8) (laidMet_of_run' 8 (by kernel_rfl) (by kernel_rfl)) (by kernel_rfl) (by kernel_rfl)
set_option maxRecDepth 100000 in
theorem open_nums {H : Type} {enc : TypeId × Value → H} {w : World} {base : Nat} {spare : Nat → Bool} {held : Bool} {r : Reach} {b0 : Nat} {v : Value} {d : DataW H} {p : List MemPlace} (hval : Value.okWide Tryz.prog w r b0 22 v) (h : DataW.Trod enc Tryz.prog w base spare held 22 v d p) :
    ∃ (a : Option Addr) (len cap : Nat), v = .slice a len cap ∧ NumsAt w a len := by
  obtain ⟨a0, len0, cap0, rfl⟩ := okWide_slice Tryz.underlying22 hval
  obtain ⟨fuel, hf⟩ := h
  refine ⟨a0, len0, cap0, rfl, ?_⟩
  rcases DataW.trod_slice Tryz.underlying22 hf with ⟨hc, _⟩ | ⟨a, len, cap, elems, rest, n, hn, hc, _, hb, hl, hm, hlen, hel, _, _⟩
  · simp [Value.cells] at hc
    obtain ⟨rfl, rfl, rfl⟩ := hc
    exact ⟨Nat.zero_le _, .inl rfl⟩
  · simp [Value.cells] at hc
    obtain ⟨rfl, rfl, rfl⟩ := hc
    refine ⟨by omega, ?_⟩
    by_cases h0 : len0 = 0
    · exact .inl h0
    · have hi : ∀ i, i < len0 → ∃ n : Int, (Lit.int .i64 n).wf = true ∧ w.cell? (a.add i) = some (.int .i64 n) := fun i hil => by
        have h1 := hel i hil
        rw [List.getElem?_eq_getElem (by omega), show Tryz.prog.cellsOf 3 = 1 by kernel_rfl, Nat.mul_one] at h1
        obtain ⟨cs', hc, ht⟩ := Option.bind_eq_some_iff.1 h1
        obtain ⟨_, hcl, hat⟩ := World.cells?_some hc
        obtain ⟨k0, e0, _, f0⟩ := DataW.trod_int Tryz.underlying3 ht
        subst e0
        have := hat 0 (by omega)
        rw [Go.Deep.add_add] at this
        exact ⟨k0, f0, this⟩
      obtain ⟨b, off, spot⟩ := a
      obtain ⟨n0, _, hq0⟩ := hi 0 (by omega)
      have hspot : spot = none := by simpa [Addr.add] using World.cell?_spot hq0
      subst hspot
      have hadd : ∀ j, (⟨b, off, none⟩ : Addr).add j = ⟨b, off + j, none⟩ := fun j => by unfold Addr.add; split <;> simp_all
      refine .inr ⟨b, off, rfl, cells_below hq0, fun i hil => ?_⟩
      obtain ⟨n, hn, hq⟩ := hi i hil
      rw [hadd] at hq
      exact ⟨n, hn, hq⟩


set_option maxRecDepth 100000 in
theorem lifted (os : Os) (started : os.Started) (H : Type) (enc : TypeId × Value → H) :
    ReturnsInHanded {} Tryz.checked os 5 .any (fun w args => (Rows.integrityEmptySpec.pre enc Tryz.prog Tryz.f5 [] false w args ∧ laidMetH Tryz.prog Rows.integrityEmptyRow.laid w) ∧ sizedMet enc Tryz.prog Tryz.f5 (OpenSpec.ofChange Rows.integrityEmptySpec) false w args)
      (Rows.integrityEmptySpec.post enc Tryz.prog Tryz.f5 false true false false) := by
  refine returnsInHanded_of_change_and (C := Tryz.checked) (X := fun w _ => laidMetH Tryz.prog Rows.integrityEmptyRow.laid w) (fun _ _ _ hh h => h.of_heap hh) own started (by kernel_rfl) Tryz.func5
    (ChangeSpec.witness_shaped (enc := enc) (C := Tryz.checked) (os := os) (X := fun w _ => laidMetH Tryz.prog Rows.integrityEmptyRow.laid w) false (World.doorLaid Tryz.prog 42 os) #[.slice none 0 0] 8 rfl (World.shaped_of_RefB (by kernel_rfl) (by kernel_rfl)) (by kernel_rfl) (by kernel_rfl) (by kernel_rfl) (door_met os _)) ?_
  intro W base args ds gs before hval0 hW _ _ hL _
  have hval : ∀ (j : Nat) t v, Tryz.f5.params[j]? = some t → args[j]? = some v → Value.okWide Tryz.prog W .any base t v := hval0
  have hW' := hW
  obtain ⟨p, q, hA0, hV, rfl, hfz, hnd⟩ := hW
  have hA : DataW.TrodAll enc Tryz.prog W 0 (fun _ => true) true Tryz.f5.params.toList args.toList ds p := hA0
  rw [Tryz.params5] at hA hval
  obtain ⟨v0, vs0, d0, ds0, p0, q0, hargs, rfl, rfl, h0, r0⟩ := trodAll_cons hA
  obtain ⟨rfl, rfl, rfl⟩ := trodAll_nil r0
  obtain rfl : args = #[v0] := by cases args; simp_all
  obtain ⟨rfl, rfl⟩ := trodVars_none hV
  have k0 := h0
  have lt0 : ∀ x ∈ p0, x.block < W.heap.size := by obtain ⟨m, hm⟩ := k0; exact DataW.trod_lt m _ _ _ hm
  obtain ⟨b0, len0, cap0, rfl, w0⟩ := open_nums (hval 0 22 v0 rfl rfl) h0
  clear hA0 hval0
  have hO := of_laid hL
  refine (integrityEmpty_walk  b0 len0 cap0 W w0 hO).mono fun e W' ⟨he, bel⟩ => ?_
  subst he
  exact ⟨_, rfl, _, _, _, [], _, [], hW', trodAll_mk1 (shut_bool Tryz.underlying4 _), (trodAll_cons_mk (Below.trod laidOut (by kernel_rfl) (of_decide_eq_true (by kernel_rfl)) k0 bel lt0) trodAll_mk0), rfl, bel.frame _, fun h => by cases h⟩

theorem said : Rows.IntegrityEmptySaid :=
  OpenClaim.holds_of_wide 5 Tryz.f5 rfl rfl rfl rfl rfl rfl rfl ⟨rfl, rfl, rfl, rfl, rfl⟩ rfl rfl rfl rfl rfl (by kernel_rfl) Tryz.func5 (by kernel_rfl)
    (of_decide_eq_true (by kernel_rfl)) (by unfold Func.isWrapper; first | (rw [if_pos (by decide +kernel)]; kernel_rfl) | (rw [if_neg (by decide +kernel)]; exact ⟨rfl, rfl⟩))
    (fun os started H enc _ => lifted os started H enc)

theorem plain (f : FuncId) (fn : Func) (hf : Tryz.pinned.checked.prog.funcNamed "querylab/querylablaw09.IntegrityEmpty" = some f) (hfn : Tryz.pinned.checked.prog.funcs[f]? = some fn) :
    false = Tryz.pinned.checked.prog.looks [] ∧ ∀ (j : Nat) t, fn.params[j]? = some t → Tryz.pinned.checked.prog.wantsStandIn t = false := by
  obtain rfl : f = 5 := Option.some.inj ((show Tryz.prog.funcNamed "querylab/querylablaw09.IntegrityEmpty" = some 5 by kernel_rfl).symm.trans hf) |>.symm
  obtain rfl : fn = Tryz.f5 := (Option.some.inj (Tryz.func5.symm.trans hfn)).symm
  refine ⟨by kernel_rfl, fun j t ht => ?_⟩
  rw [Tryz.params5] at ht
  have hm : t ∈ [22] := by simpa using Array.mem_of_getElem? ht
  have hall : ([22].all fun u => !Tryz.prog.wantsStandIn u) = true := by kernel_rfl
  exact (show Tryz.prog.wantsStandIn t = false by simpa using List.all_eq_true.1 hall t hm)

theorem card : Rows.IntegrityEmptyCardSaid :=
  Claim7.holds_tied_plain_at .later [] _ _ _ _ said (fun _ h => by cases h) (by kernel_rfl) (fun _ h => by cases h) integrityEmpty_row_tie rfl ⟨rfl, rfl⟩ (by kernel_rfl) rfl plain (by kernel_rfl)
#print axioms card
end Go.Proofs.YtdmhmlnfoocnjaaGreatDoor.integrityEmpty
