/-
  The law of exact sums, differences, products and quotients, walked.
-/
import Derived.Test.YthlaejodajdioaaFBig6
import Derived.Test.YthlaejodajdioaaNew
import Derived.Laws.StructEq
import Derived.WalkKit
import Derived.Deep.CutBlock
import Derived.Deep.DeepCutAuto
set_option linter.unusedVariables false
namespace Go.Proofs.Ythlaejodajdioaa
open Go Go.RowKit Go.Deep
theorem eqIn_fr' (n d n' d' : Int) (w : World) : (Op.equalIn 10000 23 (.agg #[.int .i64 n, .int .i64 d]) (.agg #[.int .i64 n', .int .i64 d'])).run Try.prog w = .ok (n == n' && d == d') w := by
  have hS : Try.prog.underlying 23 = some (.struct (Try.prog.fieldsOf 23)) := by kernel_rfl
  have hp : Try.prog.stoodInHeld 23 = false := by kernel_rfl
  have u2 := Try.underlying2
  have a2 := Try.isAgg2
  have z2 := Try.sizeOf2
  rw [show (10000 : Nat) = 9999 + 1 from rfl, run_equalIn_agg w 9999 _ _ _ hS hp]
  simp only [Program.fieldsOf, Try.underlying23]
  go_simp
  by_cases h1 : n = n' <;> by_cases h2 : d = d' <;> simp [h1, h2]
/-- Two variables that hold a fraction each. -/
structure TwoB (W : World) (b c : Nat) (n d n' d' : Int) : Prop where
  fst : W.heap[b]? = some (.cells #[.int .i64 n, .int .i64 d] 23)
  snd : W.heap[c]? = some (.cells #[.int .i64 n', .int .i64 d'] 23)
  ne : b ≠ c
theorem TwoB.ext {W : World} {b c : Nat} {n d n' d' : Int} (h : TwoB W b c n d n' d') (y : Ext W) : TwoB y.val b c n d n' d' :=
  ⟨(y.below.block b (Array.getElem?_eq_some_iff.1 h.fst).1).trans h.fst, (y.below.block c (Array.getElem?_eq_some_iff.1 h.snd).1).trans h.snd, h.ne⟩
theorem set_two {W : World} {b : Nat} {n d : Int} (h : W.heap[b]? = some (.cells #[.int .i64 n, .int .i64 d] 23)) (x y : Int) : ((W.setCell ⟨b, 0, none⟩ (.int .i64 x)).setCell ⟨b, 1, none⟩ (.int .i64 y)).heap[b]? = some (.cells #[.int .i64 x, .int .i64 y] 23) := by
  have e1 := heap_setCell_same W b 0 _ _ (.int .i64 x) h
  have e2 := heap_setCell_same _ b 1 _ _ (.int .i64 y) e1
  rw [e2]
  rfl
theorem TwoB.setS {W : World} {b c : Nat} {n d n' d' : Int} (h : TwoB W b c n d n' d') (x y : Int) : TwoB ((W.setCell ⟨b, 0, none⟩ (.int .i64 x)).setCell ⟨b, 1, none⟩ (.int .i64 y)) b c x y n' d' :=
  ⟨set_two h.fst x y, by rw [heap_setCell_other _ _ _ _ (fun e => h.ne e.symm), heap_setCell_other _ _ _ _ (fun e => h.ne e.symm)]; exact h.snd, h.ne⟩
theorem TwoB.setT {W : World} {b c : Nat} {n d n' d' : Int} (h : TwoB W b c n d n' d') (x y : Int) : TwoB ((W.setCell ⟨c, 0, none⟩ (.int .i64 x)).setCell ⟨c, 1, none⟩ (.int .i64 y)) b c n d x y :=
  ⟨by rw [heap_setCell_other _ _ _ _ (fun e => h.ne e), heap_setCell_other _ _ _ _ (fun e => h.ne e)]; exact h.fst, set_two h.snd x y, h.ne⟩
theorem TwoB.facts {W : World} {b c : Nat} {n d n' d' : Int} (h : TwoB W b c n d n' d') :
    (W.cell? ⟨b, 0, none⟩ = some (.int .i64 n) ∧ W.cell? ⟨b, 1, none⟩ = some (.int .i64 d) ∧ W.cell? ⟨c, 0, none⟩ = some (.int .i64 n') ∧ W.cell? ⟨c, 1, none⟩ = some (.int .i64 d')) ∧
    (W.frozen? ⟨b, 0, none⟩ = false ∧ W.frozen? ⟨b, 1, none⟩ = false ∧ W.frozen? ⟨c, 0, none⟩ = false ∧ W.frozen? ⟨c, 1, none⟩ = false) := by
  obtain ⟨_, f1, f2, c1, c2⟩ := two_z h.fst
  obtain ⟨_, g1, g2, e1, e2⟩ := two_z h.snd
  exact ⟨⟨c1, c2, e1, e2⟩, f1, f2, g1, g2⟩
/-- An operation on two fractions gives r, whatever the world. -/
def Op3 (f : Nat) (n d n' d' : Int) (r : Value) : Prop := ∀ W : World, Calls Try.prog f #[.agg #[.int .i64 n, .int .i64 d], .agg #[.int .i64 n', .int .i64 d']] W fun e w' => e = .returned r ∧ Cls W w'
set_option maxHeartbeats 16000000 in
set_option maxRecDepth 20000 in
theorem exact_core (an ad bn bd n1 d1 e1 n2 d2 e2 n3 d3 e3 n4 d4 e4 : Int) (va : Bool) (w : World) (A1 : Hid (Op3 7 an ad bn bd (.tuple #[.agg #[.int .i64 n1, .int .i64 d1], .int .i64 e1]))) (R1 : Hid (Op3 8 an ad bn bd (.tuple #[.agg #[.int .i64 n1, .int .i64 d1], .int .i64 e1]))) (A2 : Hid (Op3 11 an ad bn bd (.tuple #[.agg #[.int .i64 n2, .int .i64 d2], .int .i64 e2]))) (R2 : Hid (Op3 12 an ad bn bd (.tuple #[.agg #[.int .i64 n2, .int .i64 d2], .int .i64 e2]))) (A3 : Hid (Op3 13 an ad bn bd (.tuple #[.agg #[.int .i64 n3, .int .i64 d3], .int .i64 e3]))) (R3 : Hid (Op3 14 an ad bn bd (.tuple #[.agg #[.int .i64 n3, .int .i64 d3], .int .i64 e3]))) (A4 : Hid (Op3 15 an ad bn bd (.tuple #[.agg #[.int .i64 n4, .int .i64 d4], .int .i64 e4]))) (R4 : Hid (Op3 16 an ad bn bd (.tuple #[.agg #[.int .i64 n4, .int .i64 d4], .int .i64 e4])))
    (V1 : Hid (∀ W : World, Calls Try.prog 9 #[.agg #[.int .i64 an, .int .i64 ad]] W fun e w' => e = .returned (.bool va) ∧ Cls W w'))
    (V2 : Hid (∀ W : World, Calls Try.prog 10 #[.agg #[.int .i64 an, .int .i64 ad]] W fun e w' => e = .returned (.bool va) ∧ Cls W w')) :
    Calls Try.prog 3 #[.agg #[.int .i64 an, .int .i64 ad], .agg #[.int .i64 bn, .int .i64 bd]] w fun e w' => e = .returned (.bool true) ∧ Cls w w' := by
  have G1 := Lib.hid (fun W => A1.out W)
  have H1 := Lib.hid (fun W => R1.out W)
  have G2 := Lib.hid (fun W => A2.out W)
  have H2 := Lib.hid (fun W => R2.out W)
  have G3 := Lib.hid (fun W => A3.out W)
  have H3 := Lib.hid (fun W => R3.out W)
  have G4 := Lib.hid (fun W => A4.out W)
  have H4 := Lib.hid (fun W => R4.out W)
  have Q1 : ∀ W, _ := eqIn_fr' n1 d1 n1 d1
  have Q2 : ∀ W, _ := eqIn_fr' n2 d2 n2 d2
  have Q3 : ∀ W, _ := eqIn_fr' n3 d3 n3 d3
  have Q4 : ∀ W, _ := eqIn_fr' n4 d4 n4 d4
  simp only [beq_self_eq_true, Bool.and_self] at Q1 Q2 Q3 Q4
  clear A1 A2 A3 A4 R1 R2 R3 R4
  go_enter Try.func3, Try.ntmps3
  go_wp2_with (first | (go_at_call 7; (with_reducible refine (G1.out _).mono ?_); rintro e _ ⟨rfl, ⟨y1, rfl⟩⟩; have y1s := y1.size; (try simp at y1s); have y1a : w.heap.size < y1.val.heap.size := (by omega); have y1b : w.heap.size + 1 < y1.val.heap.size := (by omega)) | (go_at_call 8; (with_reducible refine (H1.out _).mono ?_); rintro e _ ⟨rfl, ⟨y2, rfl⟩⟩; have y2s := y2.size; (try simp at y2s); have y2a : w.heap.size < y2.val.heap.size := (by omega); have y2b : w.heap.size + 1 < y2.val.heap.size := (by omega); have y2c : y1.val.heap.size < y2.val.heap.size := (by omega)))
  refine wp_region_ext (by kernel_rfl) (by kernel_rfl) ?_
  repeat (go_big_quiet_step (first | (go_at_call 9; with_reducible exact Cls.call (V1.out _)) | (go_at_call 10; with_reducible exact Cls.call (V2.out _))))
  refine wpQuiet_nil ?_
  rintro _ ⟨y3, rfl⟩
  have y3s := y3.size
  (try simp at y3s)
  have y3a : w.heap.size < y3.val.heap.size := (by omega)
  have y3b : w.heap.size + 1 < y3.val.heap.size := (by omega)
  have y3c : y1.val.heap.size < y3.val.heap.size := (by omega)
  have y3d : y2.val.heap.size < y3.val.heap.size := (by omega)
  have hne : ¬ y1.val.heap.size = y2.val.heap.size := (by omega)
  have hne' : ¬ y2.val.heap.size = y1.val.heap.size := (by omega)
  have B2 := (y2.below.block (y1.val.heap.size) (by simp)).trans (heap_alloc_new y1.val _)
  have B3 : Hid (TwoB y3.val y1.val.heap.size y2.val.heap.size n1 d1 n1 d1) := Lib.hid ⟨(y3.below.block (y1.val.heap.size) (by first | omega | (simp; omega))).trans ((Below.heap_alloc _ _ _ (by omega)).trans B2), (y3.below.block (y2.val.heap.size) (by first | omega | (simp; done) | (simp; omega))).trans (heap_alloc_new y2.val _), hne⟩
  clear B2
  go_wp2_with (first | (go_at_call 11; (with_reducible refine (G2.out _).mono ?_); rintro e _ ⟨rfl, ⟨y4, rfl⟩⟩; have y4s := y4.size; (try simp at y4s); have y4a : w.heap.size < y4.val.heap.size := (by omega); have y4b : w.heap.size + 1 < y4.val.heap.size := (by omega); have y4c : y1.val.heap.size < y4.val.heap.size := (by omega); have y4d : y2.val.heap.size < y4.val.heap.size := (by omega); have B4 := Lib.hid ((B3.out).ext y4); obtain ⟨⟨B4a, B4b, B4c, B4d⟩, B4e, B4f, B4g, B4h⟩ := B4.out.facts; have B4' := Lib.hid (B4.out.setS n2 d2); obtain ⟨⟨B4i, B4j, B4k, B4l⟩, B4m, B4n, B4o, B4p⟩ := B4'.out.facts) | (go_at_call 12; (with_reducible refine (H2.out _).mono ?_); rintro e _ ⟨rfl, ⟨y5, rfl⟩⟩; have y5s := y5.size; (try simp at y5s); have y5a : w.heap.size < y5.val.heap.size := (by omega); have y5b : w.heap.size + 1 < y5.val.heap.size := (by omega); have y5c : y1.val.heap.size < y5.val.heap.size := (by omega); have y5d : y2.val.heap.size < y5.val.heap.size := (by omega); have B5 := Lib.hid ((B4'.out).ext y5); obtain ⟨⟨B5a, B5b, B5c, B5d⟩, B5e, B5f, B5g, B5h⟩ := B5.out.facts; have B5' := Lib.hid (B5.out.setT n2 d2); obtain ⟨⟨B5i, B5j, B5k, B5l⟩, B5m, B5n, B5o, B5p⟩ := B5'.out.facts) | (go_at_call 13; (with_reducible refine (G3.out _).mono ?_); rintro e _ ⟨rfl, ⟨y6, rfl⟩⟩; have y6s := y6.size; (try simp at y6s); have y6a : w.heap.size < y6.val.heap.size := (by omega); have y6b : w.heap.size + 1 < y6.val.heap.size := (by omega); have y6c : y1.val.heap.size < y6.val.heap.size := (by omega); have y6d : y2.val.heap.size < y6.val.heap.size := (by omega); have B6 := Lib.hid ((B5'.out).ext y6); obtain ⟨⟨B6a, B6b, B6c, B6d⟩, B6e, B6f, B6g, B6h⟩ := B6.out.facts; have B6' := Lib.hid (B6.out.setS n3 d3); obtain ⟨⟨B6i, B6j, B6k, B6l⟩, B6m, B6n, B6o, B6p⟩ := B6'.out.facts) | (go_at_call 14; (with_reducible refine (H3.out _).mono ?_); rintro e _ ⟨rfl, ⟨y7, rfl⟩⟩; have y7s := y7.size; (try simp at y7s); have y7a : w.heap.size < y7.val.heap.size := (by omega); have y7b : w.heap.size + 1 < y7.val.heap.size := (by omega); have y7c : y1.val.heap.size < y7.val.heap.size := (by omega); have y7d : y2.val.heap.size < y7.val.heap.size := (by omega); have B7 := Lib.hid ((B6'.out).ext y7); obtain ⟨⟨B7a, B7b, B7c, B7d⟩, B7e, B7f, B7g, B7h⟩ := B7.out.facts; have B7' := Lib.hid (B7.out.setT n3 d3); obtain ⟨⟨B7i, B7j, B7k, B7l⟩, B7m, B7n, B7o, B7p⟩ := B7'.out.facts) | (go_at_call 15; (with_reducible refine (G4.out _).mono ?_); rintro e _ ⟨rfl, ⟨y8, rfl⟩⟩; have y8s := y8.size; (try simp at y8s); have y8a : w.heap.size < y8.val.heap.size := (by omega); have y8b : w.heap.size + 1 < y8.val.heap.size := (by omega); have y8c : y1.val.heap.size < y8.val.heap.size := (by omega); have y8d : y2.val.heap.size < y8.val.heap.size := (by omega); have B8 := Lib.hid ((B7'.out).ext y8); obtain ⟨⟨B8a, B8b, B8c, B8d⟩, B8e, B8f, B8g, B8h⟩ := B8.out.facts; have B8' := Lib.hid (B8.out.setS n4 d4); obtain ⟨⟨B8i, B8j, B8k, B8l⟩, B8m, B8n, B8o, B8p⟩ := B8'.out.facts) | (go_at_call 16; (with_reducible refine (H4.out _).mono ?_); rintro e _ ⟨rfl, ⟨y9, rfl⟩⟩; have y9s := y9.size; (try simp at y9s); have y9a : w.heap.size < y9.val.heap.size := (by omega); have y9b : w.heap.size + 1 < y9.val.heap.size := (by omega); have y9c : y1.val.heap.size < y9.val.heap.size := (by omega); have y9d : y2.val.heap.size < y9.val.heap.size := (by omega); have B9 := Lib.hid ((B8'.out).ext y9); obtain ⟨⟨B9a, B9b, B9c, B9d⟩, B9e, B9f, B9g, B9h⟩ := B9.out.facts; have B9' := Lib.hid (B9.out.setT n4 d4); obtain ⟨⟨B9i, B9j, B9k, B9l⟩, B9m, B9n, B9o, B9p⟩ := B9'.out.facts))
  go_ret
  refine ⟨rfl, Cls.of ?_⟩
  repeat first | with_reducible exact Below.refl _ _ | with_reducible refine Below.setCell ?_ (by first | omega | (simp; done) | (simp; omega)) _ | with_reducible refine Below.alloc ?_ (by first | omega | (simp; done) | (simp; omega)) _ | with_reducible refine Below.drew ?_ | with_reducible refine Ext.on _ ?_ (by first | omega | (simp; done) | (simp; omega))
theorem In64.of' {n : Int} (h : (Lit.int .i64 n).wf = true) : In64 n := by
  unfold In64
  simp [Lit.wf, IntKind.min, IntKind.max, IntKind.bits, IntKind.signed] at h
  omega
set_option maxHeartbeats 4000000 in
theorem fractionExact_walk (an ad bn bd : Int) (w : World) (h1 : (Lit.int .i64 an).wf = true) (h2 : (Lit.int .i64 ad).wf = true) (h3 : (Lit.int .i64 bn).wf = true) (h4 : (Lit.int .i64 bd).wf = true) :
    Calls Try.prog 3 #[.agg #[.int .i64 an, .int .i64 ad], .agg #[.int .i64 bn, .int .i64 bd]] w fun e w' => e = .returned (.bool true) ∧ Below w.heap.size w w' := by
  have i1 := In64.of' h1
  have i2 := In64.of' h2
  have i3 := In64.of' h3
  have i4 := In64.of' h4
  exact (exact_core an ad bn bd (rsN (vaB an ad && vaB bn bd) (an * bd + bn * ad) (ad.natAbs * bd.natAbs)) (rsD (vaB an ad && vaB bn bd) (an * bd + bn * ad) (ad.natAbs * bd.natAbs)) (rsE (vaB an ad && vaB bn bd) (an * bd + bn * ad) (ad.natAbs * bd.natAbs)) (rsN (vaB an ad && vaB bn bd) (an * bd + -bn * ad) (ad.natAbs * bd.natAbs)) (rsD (vaB an ad && vaB bn bd) (an * bd + -bn * ad) (ad.natAbs * bd.natAbs)) (rsE (vaB an ad && vaB bn bd) (an * bd + -bn * ad) (ad.natAbs * bd.natAbs)) (rsN (vaB an ad && vaB bn bd) (an * bn) (ad.natAbs * bd.natAbs)) (rsD (vaB an ad && vaB bn bd) (an * bn) (ad.natAbs * bd.natAbs)) (rsE (vaB an ad && vaB bn bd) (an * bn) (ad.natAbs * bd.natAbs)) (rsN (vaB an ad && vaB bn bd && !(bn == 0)) (an * (if bn < 0 then -bd else bd)) (ad.natAbs * bn.natAbs)) (rsD (vaB an ad && vaB bn bd && !(bn == 0)) (an * (if bn < 0 then -bd else bd)) (ad.natAbs * bn.natAbs)) (rsE (vaB an ad && vaB bn bd && !(bn == 0)) (an * (if bn < 0 then -bd else bd)) (ad.natAbs * bn.natAbs)) (vaB an ad) w (Lib.hid fun W => Add_calls an ad bn bd W i1 i2 i3 i4) (Lib.hid fun W => rAdd_calls an ad bn bd W i1 i2 i3 i4) (Lib.hid fun W => Sub_calls an ad bn bd W i1 i2 i3 i4) (Lib.hid fun W => rSub_calls an ad bn bd W i1 i2 i3 i4) (Lib.hid fun W => Mul_calls an ad bn bd W i1 i2 i3 i4) (Lib.hid fun W => rMul_calls an ad bn bd W i1 i2 i3 i4) (Lib.hid fun W => Div_calls an ad bn bd W i1 i2 i3 i4) (Lib.hid fun W => rDiv_calls an ad bn bd W i1 i2 i3 i4) (Lib.hid fun W => Valid_calls an ad W i1.1 i1.2 i2.1 i2.2) (Lib.hid fun W => rValid_calls an ad W)).mono fun _ _ ⟨he, hc⟩ => ⟨he, hc.below⟩
end Go.Proofs.Ythlaejodajdioaa
