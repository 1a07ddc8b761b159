/-
  The first table or column with a name.
-/
import Derived.Test.YtdmhmlnfoocnjaaGreatDoorK02
import Derived.BigQuiet
import Derived.Test.YtdmhmlnfoocnjaaGreatDoorK01
import Derived.Maps.OwnSet
import Derived.Test.YtdmhmlnfoocnjaaGreatDoorK08
import Derived.Maps.OwnOps
import Derived.DeepKeys4
set_option linter.unusedVariables false
namespace Go.Proofs.YtdmhmlnfoocnjaaGreatDoor
open Go Go.RowKit Go.Deep
def idx (p : Nat → Bool) : Nat → Nat → Int
  | _, 0 => -1
  | j, m + 1 => if p j = true then (j : Int) else idx p (j + 1) m
theorem idx_stop {p : Nat → Bool} {j m : Nat} (h : p j = true) : idx p j (m + 1) = j := by rw [idx, if_pos h]
theorem idx_go {p : Nat → Bool} {j m : Nat} (h : p j = false) : idx p j (m + 1) = idx p (j + 1) m := by rw [idx, if_neg (by rw [h]; exact Bool.false_ne_true)]
theorem idx_bd (p : Nat → Bool) : ∀ m j, -1 ≤ idx p j m ∧ (idx p j m < 0 ∨ idx p j m < j + m)
  | 0, j => by simp [idx]
  | m + 1, j => by
    unfold idx
    split
    · omega
    · have := idx_bd p m (j + 1); omega
def nameP (tb : Nat → Tb) (s : ByteArray) (i : Nat) : Bool := (tb i).name.toList == s.toList
set_option maxHeartbeats 2000000 in
set_option maxRecDepth 20000 in
theorem tabFn_calls (t : Tb) (s : ByteArray) (b : Nat) (w : World) (hb : w.cell? ⟨b, 0, none⟩ = some (.string s)) (hlt : b < w.heap.size) :
    Calls Tryz.prog 72 #[.agg #[.string t.name, .slice t.cs.a t.cs.len t.cs.cap, .slice t.ps.a t.ps.len t.ps.cap, .slice t.us.a t.us.len t.us.cap, .slice t.fs.a t.fs.len t.fs.cap, .slice t.ks.a t.ks.len t.ks.cap], .pointer (some ⟨b, 0, none⟩)] w fun r w' => r = .returned (.bool (t.name.toList == s.toList)) ∧ Cls w w' := by
  go_enter Tryz.func72, Tryz.ntmps72
  go_wp2_with fail
  go_ret
  refine ⟨ret_bool rfl, Cls.of ?_⟩
  repeat first|with_reducible exact Below.refl _ _|with_reducible refine Below.setCell ?_ (by first|omega|(simp;done)|(simp;omega)) _|with_reducible refine Below.alloc ?_ (by first|omega|(simp;done)|(simp;omega)) _|with_reducible refine Below.drew ?_|with_reducible refine Ext.on _ ?_ (by first|omega|(simp;done)|(simp;omega))
set_option maxHeartbeats 4000000 in
set_option maxRecDepth 20000 in
theorem indexT_calls (sl : Sl) (tb : Nat → Tb) (s : ByteArray) (bx : Nat) (w : World) (h : TabsAt w sl tb) (hb : w.cell? ⟨bx, 0, none⟩ = some (.string s)) (hlt : bx < w.heap.size) :
    Calls Tryz.prog 101 #[.slice sl.a sl.len sl.cap, .func (.func 72) #[] #[.pointer (some ⟨bx, 0, none⟩)]] w fun r w' => r = .returned (.int .i64 (idx (nameP tb s) 0 sl.len)) ∧ Cls w w' := by
  have hle := h.1.1
  have hmax := h.1.2.1
  unfold maxLen at hmax
  have H := Lib.hid h
  obtain ⟨sa, sn, sc⟩ := sl
  simp only at hle hmax
  clear h
  go_enter Tryz.func101, Tryz.ntmps101
  go_wp2_with fail
  go_loopw [8] (fun i wr => ∃ j : Nat, j ≤ sn ∧ i = .int .i64 j ∧ idx (nameP tb s) 0 sn = idx (nameP tb s) j (sn - j) ∧ Cls w wr) (fun i _ => sn - (intOf i).toNat)
  case atStart => exact ⟨0, Nat.zero_le _, rfl, rfl, Cls.of (Below.refl _ _)⟩
  case round =>
    obtain ⟨j, hj, rfl, he, x, rfl⟩ := hrel
    have HE := Lib.hid he
    clear he
    have xs := x.size
    by_cases hltj : j < sn
    · obtain ⟨b, off, ha, hb2, hc⟩ := H.out.1.2.2.2 j hltj
      simp only at ha
      subst ha
      have q0 := hc 0 (by omega)
      have q1 := hc 1 (by omega)
      have q2 := hc 2 (by omega)
      have q3 := hc 3 (by omega)
      have q4 := hc 4 (by omega)
      have q5 := hc 5 (by omega)
      simp only [Tb.cells, Sl.v, List.getElem?_cons_zero, List.getElem?_cons_succ, Nat.add_zero] at q0 q1 q2 q3 q4 q5
      have hN : Hid (nameP tb s j = ((tb j).name.toList == s.toList)) := Lib.hid rfl
      have hS : Hid (sn - j = (sn - (j + 1)) + 1) := Lib.hid (by omega)
      clear hc
      generalize tb j = t at *
      cases hbb : t.name.toList == s.toList
      all_goals
        have HB := Lib.hid hbb
        have C1 : Hid (∀ W, Below w.heap.size w W → Calls Tryz.prog 72 #[.agg #[.string t.name, .slice t.cs.a t.cs.len t.cs.cap, .slice t.ps.a t.ps.len t.ps.cap, .slice t.us.a t.us.len t.us.cap, .slice t.fs.a t.fs.len t.fs.cap, .slice t.ks.a t.ks.len t.ks.cap], .pointer (some ⟨bx, 0, none⟩)] W fun r w' => r = .returned (.bool (t.name.toList == s.toList)) ∧ Cls W w') := Lib.hid (fun W hW => tabFn_calls t s bx W (by rw [hW.cell (p := ⟨bx, 0, none⟩) hlt]; exact hb) (Nat.lt_of_lt_of_le hlt hW.size))
        rw [hbb] at C1
        clear hbb
        go_wp2_with (go_at_call 72; ((with_reducible refine (Cls.call (C1.out _ x.below)).mono ?_); rintro r _ ⟨rfl, y, rfl⟩))
      · go_roundw
        case rel => exact ⟨j + 1, by omega, by go_num, by rw [HE.out, hS.out, idx_go (by rw [hN.out, HB.out])], y, rfl⟩
        case measure => simp [intOf]; omega
      · go_ret
        exact ⟨ret_int (by rw [HE.out, hS.out, idx_stop (by rw [hN.out, HB.out])]), y, rfl⟩
    · have hz : Hid (sn - j = 0) := Lib.hid (by omega)
      go_wp2_with fail
      go_ret
      exact ⟨ret_int (by rw [HE.out, hz.out]; rfl), x, rfl⟩
end Go.Proofs.YtdmhmlnfoocnjaaGreatDoor
set_option linter.unusedVariables false
namespace Go.Proofs.YtdmhmlnfoocnjaaGreatDoor
open Go Go.RowKit Go.Deep
def at0 (r : Int) : Int := if r < 0 then 0 else r
set_option maxHeartbeats 2000000 in
set_option maxRecDepth 20000 in
theorem firstT_calls (sl : Sl) (tb : Nat → Tb) (s : ByteArray) (bx : Nat) (w : World) (h : TabsAt w sl tb) (hb : w.cell? ⟨bx, 0, none⟩ = some (.string s)) (hlt : bx < w.heap.size) :
    Calls Tryz.prog 71 #[.slice sl.a sl.len sl.cap, .func (.func 72) #[] #[.pointer (some ⟨bx, 0, none⟩)]] w fun r w' => r = .returned (.tuple #[.int .i64 (at0 (idx (nameP tb s) 0 sl.len)), .bool (decide (0 ≤ idx (nameP tb s) 0 sl.len))]) ∧ Cls w w' := by
  have C1 := Lib.hid (indexT_calls sl tb s bx w h hb hlt)
  have hbd := idx_bd (nameP tb s) sl.len 0
  clear h hb
  generalize idx (nameP tb s) 0 sl.len = r0 at C1 hbd ⊢
  by_cases hr : r0 < 0
  · have e1 : at0 r0 = 0 := by unfold at0; rw [if_pos hr]
    have d1 : decide (0 ≤ r0) = false := by simp; omega
    rw [e1, d1]
    go_enter Tryz.func71, Tryz.ntmps71
    go_wp2_with (go_at_call 101; ((with_reducible refine C1.out.mono ?_); rintro r _ ⟨rfl, y, rfl⟩))
    all_goals first
      | (exfalso; omega)
      | (go_ret2
         exact ⟨rfl, y, rfl⟩)
  · have e1 : at0 r0 = r0 := by unfold at0; rw [if_neg hr]
    have d1 : decide (0 ≤ r0) = true := by simp; omega
    rw [e1, d1]
    go_enter Tryz.func71, Tryz.ntmps71
    go_wp2_with (go_at_call 101; ((with_reducible refine C1.out.mono ?_); rintro r _ ⟨rfl, y, rfl⟩))
    all_goals first
      | (exfalso; omega)
      | (go_ret2
         exact ⟨rfl, y, rfl⟩)
set_option maxHeartbeats 2000000 in
set_option maxRecDepth 20000 in
theorem Find_calls (sl : Sl) (tb : Nat → Tb) (s : ByteArray) (w : World) (h : TabsAt w sl tb) :
    Calls Tryz.prog 44 #[.agg #[.slice sl.a sl.len sl.cap], .string s] w fun r w' => r = .returned (.tuple #[.int .i64 (at0 (idx (nameP tb s) 0 sl.len)), .bool (decide (0 ≤ idx (nameP tb s) 0 sl.len))]) ∧ Cls w w' := by
  have C1 : Hid (∀ W, Below w.heap.size w W → W.cell? ⟨w.heap.size + 1, 0, none⟩ = some (.string s) → w.heap.size + 1 < W.heap.size → Calls Tryz.prog 71 #[.slice sl.a sl.len sl.cap, .func (.func 72) #[] #[.pointer (some ⟨w.heap.size + 1, 0, none⟩)]] W fun r w' => r = .returned (.tuple #[.int .i64 (at0 (idx (nameP tb s) 0 sl.len)), .bool (decide (0 ≤ idx (nameP tb s) 0 sl.len))]) ∧ Cls W w') :=
    Lib.hid (fun W hW hc hl => firstT_calls sl tb s _ W (h.later hW) hc hl)
  clear h
  go_enter Tryz.func44, Tryz.ntmps44
  go_wp2_with (go_at_call 71; ((with_reducible refine (C1.out _ ?_ ?_ ?_).mono ?_); (· (repeat first|with_reducible exact Below.refl _ _|with_reducible refine Below.setCell ?_ (by first|omega|(simp;done)|(simp;omega)) _|with_reducible refine Below.alloc ?_ (by first|omega|(simp;done)|(simp;omega)) _|with_reducible refine Below.drew ?_|with_reducible refine Ext.on _ ?_ (by first|omega|(simp;done)|(simp;omega)))); (· simp [go_sem]); (· simp); rintro r _ ⟨rfl, y, rfl⟩))
  go_ret2
  refine ⟨rfl, Cls.of ?_⟩
  repeat first|with_reducible exact Below.refl _ _|with_reducible refine Below.setCell ?_ (by first|omega|(simp;done)|(simp;omega)) _|with_reducible refine Below.alloc ?_ (by first|omega|(simp;done)|(simp;omega)) _|with_reducible refine Below.drew ?_|with_reducible refine Ext.on _ ?_ (by first|omega|(simp;done)|(simp;omega))
set_option maxHeartbeats 2000000 in
set_option maxRecDepth 20000 in
theorem rFind_calls (sl : Sl) (tb : Nat → Tb) (s : ByteArray) (w : World) (h : TabsAt w sl tb) :
    Calls Tryz.prog 35 #[.agg #[.slice sl.a sl.len sl.cap], .string s] w fun r w' => r = .returned (.tuple #[.int .i64 (at0 (idx (nameP tb s) 0 sl.len)), .bool (decide (0 ≤ idx (nameP tb s) 0 sl.len))]) ∧ Cls w w' := by
  have hle := h.1.1
  have hmax := h.1.2.1
  unfold maxLen at hmax
  have H := Lib.hid h
  obtain ⟨sa, sn, sc⟩ := sl
  simp only at hle hmax
  clear h
  go_enter Tryz.func35, Tryz.ntmps35
  go_wp2_with fail
  go_loopw [6] (fun i wr => ∃ j : Nat, j ≤ sn ∧ i = .int .i64 j ∧ idx (nameP tb s) 0 sn = idx (nameP tb s) j (sn - j) ∧ Cls (w.alloc (.cells #[.slice sa sn sc] 28)) wr) (fun i _ => sn - (intOf i).toNat)
  case atStart => exact ⟨0, Nat.zero_le _, rfl, rfl, Cls.of (Below.refl _ _)⟩
  case round =>
    obtain ⟨j, hj, rfl, he, x, rfl⟩ := hrel
    have HE := Lib.hid he
    clear he
    by_cases hltj : j < sn
    · obtain ⟨b, off, ha, hb2, hc⟩ := H.out.1.2.2.2 j hltj
      simp only at ha
      subst ha
      have q0 := hc 0 (by omega)
      have hb1 : b < w.heap.size + 1 := by omega
      simp only [Tb.cells, Sl.v, List.getElem?_cons_zero, Nat.add_zero] at q0
      have hN : Hid (nameP tb s j = ((tb j).name.toList == s.toList)) := Lib.hid rfl
      have hS : Hid (sn - j = (sn - (j + 1)) + 1) := Lib.hid (by omega)
      clear hc
      generalize tb j = t at *
      cases hbb : t.name.toList == s.toList
      · have HB := Lib.hid hbb
        go_wp2_with fail
        go_roundw
        case rel => exact ⟨j + 1, by omega, by go_num, by rw [HE.out, hS.out, idx_go (by rw [hN.out, HB.out])], x, rfl⟩
        case measure => simp [intOf]; omega
      · have HB := Lib.hid hbb
        have hI : idx (nameP tb s) 0 sn = j := by rw [HE.out, hS.out, idx_stop (by rw [hN.out, HB.out])]
        have e1 : at0 (j : Int) = j := by unfold at0; rw [if_neg (by omega)]
        have d1 : decide (0 ≤ (j : Int)) = true := by simp
        have hI2 := Lib.hid hI
        clear hI
        go_wp2_with fail
        go_ret2
        refine ⟨?_, Cls.of ?_⟩
        · show _ = Ending.returned (.tuple #[.int .i64 (at0 (idx (nameP tb s) 0 sn)), .bool (decide (0 ≤ idx (nameP tb s) 0 sn))])
          rw [hI2.out, e1, d1]; rfl
        · repeat first|with_reducible exact Below.refl _ _|with_reducible refine Below.setCell ?_ (by first|omega|(simp;done)|(simp;omega)) _|with_reducible refine Below.alloc ?_ (by first|omega|(simp;done)|(simp;omega)) _|with_reducible refine Below.drew ?_|with_reducible refine Ext.on _ ?_ (by first|omega|(simp;done)|(simp;omega))
    · have hz : sn - j = 0 := by omega
      have hI : idx (nameP tb s) 0 sn = -1 := by rw [HE.out, hz]; rfl
      have hI2 := Lib.hid hI
      clear hI hz
      go_wp2_with fail
      go_ret2
      refine ⟨?_, Cls.of ?_⟩
      · show _ = Ending.returned (.tuple #[.int .i64 (at0 (idx (nameP tb s) 0 sn)), .bool (decide (0 ≤ idx (nameP tb s) 0 sn))])
        rw [hI2.out]; rfl
      · repeat first|with_reducible exact Below.refl _ _|with_reducible refine Below.setCell ?_ (by first|omega|(simp;done)|(simp;omega)) _|with_reducible refine Below.alloc ?_ (by first|omega|(simp;done)|(simp;omega)) _|with_reducible refine Below.drew ?_|with_reducible refine Ext.on _ ?_ (by first|omega|(simp;done)|(simp;omega))
end Go.Proofs.YtdmhmlnfoocnjaaGreatDoor
set_option linter.unusedVariables false
namespace Go.Proofs.YtdmhmlnfoocnjaaGreatDoor
open Go Go.RowKit Go.Deep Go.Maps
def codeR : Value → Option (DataW Unit × List MemPlace)
  | .slice none 0 0 => some (.nil, [])
  | .slice (some ⟨g, 0, none⟩) n c => some (.agg [.lit (.int .i64 (g : Nat)), .lit (.int .i64 (n : Nat)), .lit (.int .i64 (c : Nat))], [])
  | _ => none
def nilV : Value := .slice none 0 0
theorem codeR_nil : codeR nilV = some (.nil, []) := rfl
theorem codeR_some (g n c : Nat) : codeR (.slice (some ⟨g, 0, none⟩) n c) = some (.agg [.lit (.int .i64 (g : Nat)), .lit (.int .i64 (n : Nat)), .lit (.int .i64 (c : Nat))], []) := rfl
theorem codeR_inv {v : Value} {d : DataW Unit} {ps : List MemPlace} (h : codeR v = some (d, ps)) : (v = nilV ∧ d = .nil) ∨ ∃ g n c, v = .slice (some ⟨g, 0, none⟩) n c ∧ d = .agg [.lit (.int .i64 (g : Nat)), .lit (.int .i64 (n : Nat)), .lit (.int .i64 (c : Nat))] := by
  unfold codeR at h
  split at h
  · simp only [Option.some.injEq, Prod.mk.injEq] at h
    exact .inl ⟨rfl, h.1.symm⟩
  · simp only [Option.some.injEq, Prod.mk.injEq] at h
    exact .inr ⟨_, _, _, rfl, h.1.symm⟩
  · cases h
theorem codeR_inj {v v' : Value} {d : DataW Unit} {ps ps' : List MemPlace} (h : codeR v = some (d, ps)) (h' : codeR v' = some (d, ps')) : v = v' := by
  rcases codeR_inv h with ⟨rfl, rfl⟩ | ⟨g, n, c, rfl, rfl⟩ <;> rcases codeR_inv h' with ⟨rfl, e⟩ | ⟨g', n', c', rfl, e⟩
  · rfl
  · cases e
  · cases e
  · simp only [DataW.agg.injEq, List.cons.injEq, DataW.lit.injEq, Lit.int.injEq, true_and, and_true] at e
    obtain ⟨e1, e2, e3⟩ := e
    have h1 : g = g' := by exact_mod_cast e1
    have h2 : n = n' := by exact_mod_cast e2
    have h3 : c = c' := by exact_mod_cast e3
    subst h1 h2 h3
    rfl
theorem keyL : Keyed Tryz.prog 3 := int_keyed Tryz.underlying3
theorem wf_key {j : Nat} (hj : j < 1000) : (Lit.int .i64 (j : Nat)).wf = true := by
  have h1 : IntKind.i64.min ≤ (j : Int) := Int.le_trans (by decide : IntKind.i64.min ≤ 0) (by omega)
  have h2 : (j : Int) ≤ IntKind.i64.max := Int.le_trans (by omega : (j : Int) ≤ 1000) (by decide)
  simp [Lit.wf]
  exact ⟨h1, h2⟩
theorem hkeyL {j : Nat} (hj : j < 1000) : keyOf Tryz.prog 3 (.int .i64 (j : Nat)) = some (.int .i64 (j : Nat)) := keyOf_int_mk Tryz.underlying3 (wf_key hj)
theorem zeroL (w : World) : (zeroValue 22).run Tryz.prog w = .ok (.slice none 0 0) w := by kernel_rfl
def MapIs (w : World) (B c m : Nat) (f : Nat → Option Value) : Prop :=
  ∃ D : DataW Unit, w.ownsMap Tryz.prog 3 codeR B c D ∧ Maps.size D = m ∧ ∀ j : Nat, j < 1000 → Maps.has D (.int .i64 (j : Nat)) = (f j).isSome ∧ codeR ((f j).getD nilV) = some (D.atKey (.int .i64 (j : Nat)) .nil, [])
theorem MapIs.lt {w : World} {B c m : Nat} {f : Nat → Option Value} (h : MapIs w B c m f) : B < w.heap.size := by
  obtain ⟨D, h1, _⟩ := h
  exact h1.lt
theorem MapIs.grown {w w' : World} {B c m : Nat} {f : Nat → Option Value} {row : Option Nat} (h : MapIs w B c m f) (hg : w.grownBy w' row) (hr : some B ≠ row) : MapIs w' B c m f := by
  obtain ⟨D, h1, h2⟩ := h
  exact ⟨D, h1.kept hg hr, h2⟩
theorem MapIs.same {w w' : World} {B c m : Nat} {f : Nat → Option Value} (h : MapIs w B c m f) (hb : w'.heap[B]? = w.heap[B]?) : MapIs w' B c m f := by
  obtain ⟨D, ⟨es, clock, h0, r⟩, h2⟩ := h
  exact ⟨D, ⟨es, clock, hb.trans h0, r⟩, h2⟩
theorem MapIs.later {w w' : World} {B c m : Nat} {f : Nat → Option Value} (h : MapIs w B c m f) (hb : Below w.heap.size w w') : MapIs w' B c m f := h.same (hb.block B h.lt)
theorem MapIs.congr {w : World} {B c m m' : Nat} {f f' : Nat → Option Value} (h : MapIs w B c m f) (hm : m = m') (hf : ∀ j, j < 1000 → f j = f' j) : MapIs w B c m' f' := by
  subst hm
  obtain ⟨D, h1, h2, h3⟩ := h
  exact ⟨D, h1, h2, fun j hj => by rw [← hf j hj]; exact h3 j hj⟩
theorem MapIs.made (w : World) : MapIs (w.alloc (.map #[] 0)) w.heap.size 0 0 fun _ => none :=
  ⟨.map [], World.ownsMap_made w _ _ _, rfl, fun j hj => ⟨rfl, rfl⟩⟩
theorem MapIs.look {w : World} {B c m : Nat} {f : Nat → Option Value} (h : MapIs w B c m f) {j : Nat} (hj : j < 1000) : (Instr.lookup 124 (.map (some B)) (.int .i64 (j : Nat)) false).run Tryz.prog w = .ok ((f j).getD nilV) w := by
  obtain ⟨D, h1, _, h3⟩ := h
  obtain ⟨v, ps, hrun, hv⟩ := h1.lookup keyL Tryz.underlying124 (zeroL w) codeR_nil (hkeyL hj)
  rw [hrun, codeR_inj hv (h3 j hj).2]
theorem MapIs.look_ok {w : World} {B c m : Nat} {f : Nat → Option Value} (h : MapIs w B c m f) {j : Nat} (hj : j < 1000) : (Instr.lookup 124 (.map (some B)) (.int .i64 (j : Nat)) true).run Tryz.prog w = .ok (.tuple #[(f j).getD nilV, .bool (f j).isSome]) w := by
  obtain ⟨D, h1, _, h3⟩ := h
  obtain ⟨v, ps, hrun, hv⟩ := h1.look_ok keyL Tryz.underlying124 (zeroL w) codeR_nil (hkeyL hj)
  rw [hrun, codeR_inj hv (h3 j hj).2, (h3 j hj).1]
theorem MapIs.len {w : World} {B c m : Nat} {f : Nat → Option Value} (h : MapIs w B c m f) (ty : TypeId) : (Builtin.len_ #[124] ty #[.map (some B)]).run Tryz.prog w = .ok (.int .i64 (m : Nat)) w := by
  obtain ⟨D, h1, h2, _⟩ := h
  rw [h1.len Tryz.underlying124 ty, h2]
def upd (f : Nat → Option Value) (i : Nat) (v : Option Value) : Nat → Option Value := fun j => if j = i then v else f j
theorem upd_at {f : Nat → Option Value} {i : Nat} {v : Option Value} : upd f i v i = v := if_pos rfl
theorem upd_ne {f : Nat → Option Value} {i j : Nat} {v : Option Value} (h : j ≠ i) : upd f i v j = f j := if_neg h
theorem lit_ne {i j : Nat} (h : j ≠ i) : (Lit.int .i64 (j : Nat)) ≠ Lit.int .i64 (i : Nat) := fun e => by
  simp only [Lit.int.injEq, true_and] at e
  omega
theorem MapIs.store {w : World} {B c m : Nat} {f : Nat → Option Value} (h : MapIs w B c m f) {i : Nat} (hi : i < 1000) (hc : c < maxLen) {v : Value} {d : DataW Unit} (hv : codeR v = some (d, [])) :
    ∃ w', (Instr.mapUpdate 124 (.map (some B)) (.int .i64 (i : Nat)) v).run Tryz.prog w = .ok () w' ∧ MapIs w' B (c + 1) (if (f i).isSome then m else m + 1) (upd f i (some v)) ∧ w.mapTurned w' B := by
  obtain ⟨D, h1, h2, h3⟩ := h
  obtain ⟨w', hrun, hown, ht⟩ := h1.store keyL Tryz.underlying124 hc (hkeyL hi) hv
  refine ⟨w', hrun, ⟨_, hown, ?_, fun j hj => ?_⟩, ht⟩
  · rw [size_put (h1.tidy keyL), (h3 i hi).1, h2]
  · by_cases e : j = i
    · subst e
      rw [upd_at, has_put_same h1.isMap (keyL.key (hkeyL hi)), atKey_put_same h1.isMap (keyL.key (hkeyL hi))]
      exact ⟨rfl, hv⟩
    · rw [upd_ne e, has_put_other (lit_ne e), atKey_put_other (lit_ne e)]
      exact h3 j hj
theorem MapIs.drop {w : World} {B c m : Nat} {f : Nat → Option Value} (h : MapIs w B c m f) {i : Nat} (hi : i < 1000) (ty : TypeId) :
    ∃ w', (Builtin.delete_ #[124, 3] ty #[.map (some B), .int .i64 (i : Nat)]).run Tryz.prog w = .ok (.tuple #[]) w' ∧ (∃ m', MapIs w' B c m' (upd f i none) ∧ ((f i).isSome = true → m' + 1 = m)) ∧ w.mapTurned w' B := by
  obtain ⟨D, h1, h2, h3⟩ := h
  obtain ⟨w', hrun, hown, ht⟩ := h1.drop keyL Tryz.underlying124 (hkeyL hi) ty
  refine ⟨w', hrun, ⟨_, ⟨_, hown, rfl, fun j hj => ?_⟩, fun hs => ?_⟩, ht⟩
  rotate_left
  · have h4 := size_del (k := .int .i64 (i : Nat)) (h1.tidy keyL)
    rw [(h3 i hi).1, hs, h2, if_pos rfl] at h4
    exact h4
  · by_cases e : j = i
    · subst e
      rw [upd_at, has_del_same, atKey_del_same]
      exact ⟨rfl, rfl⟩
    · rw [upd_ne e, has_del_other (lit_ne e), atKey_del_other (lit_ne e)]
      exact h3 j hj
/-! ### at the operation -/
section
variable (w : World) {ops : Array Oper} {rest : List Oper} {o : Oper} {a : Act} {Q : Exit → Act → World → Prop}
theorem wpList_store_z (hg : o.guard = none) (m x v : Operand) (hop : o.op = Op.mapUpdate 124 m x v) (B c n : Nat) (f : Nat → Option Value) (hm : a.eval m = .map (some B)) (hown : MapIs w B c n f) (hc : c < maxLen) (i : Nat) (hi : i < 1000) (val : Value) (hx : a.eval x = .int .i64 (i : Nat)) (hv : a.eval v = val)
    (d : DataW Unit) (hval : codeR val = some (d, [])) (hK : ∀ w', MapIs w' B (c + 1) (if (f i).isSome then n else n + 1) (upd f i (some val)) → w.grownBy w' (some B) → wpList Tryz.prog ops Q rest (a.put o.dst undef) w') : wpList Tryz.prog ops Q (o :: rest) a w := by
  refine wpList_plain hg fun K' hK' => ?_
  obtain ⟨w', hrun, r1, r2⟩ := hown.store hi hc hval
  unfold Oper.wp
  simp [execOp, hop, hm, hx, hv, hrun, Result.andThen]
  exact hK' _ _ (hK w' r1 r2.grown)
theorem wpList_drop_z (hg : o.guard = none) (m x : Operand) (hop : o.op = Op.call { callee := Callee.builtin Builtin.delete, args := #[m, x], argTypes := #[124, 3] }) (B c n : Nat) (f : Nat → Option Value) (hm : a.eval m = .map (some B)) (hown : MapIs w B c n f) (i : Nat) (hi : i < 1000) (hx : a.eval x = .int .i64 (i : Nat))
    (hK : ∀ w' m', MapIs w' B c m' (upd f i none) → ((f i).isSome = true → m' + 1 = n) → w.grownBy w' (some B) → wpList Tryz.prog ops Q rest (a.put o.dst (.tuple #[])) w') : wpList Tryz.prog ops Q (o :: rest) a w := by
  refine wpList_plain hg fun K' hK' => ?_
  obtain ⟨w', hrun, ⟨m', r1, r3⟩, r2⟩ := hown.drop hi o.type
  unfold Oper.wp
  simp [execOp, hop, resolve, invoke, builtin, hm, hx, hrun, Result.andThen]
  exact hK' _ _ (hK w' m' r1 r3 r2.grown)
end
end Go.Proofs.YtdmhmlnfoocnjaaGreatDoor
set_option linter.unusedVariables false
namespace Go.Proofs.YtdmhmlnfoocnjaaGreatDoor
open Go Go.RowKit Go.Deep Go.Maps
def FineV (v : Vl) : Prop := (Lit.int .i64 v.k).wf = true ∧ (Lit.int .i64 v.n).wf = true ∧ v.s.size ≤ maxLen
def FineK (c : Nat) (l : List Vl) : Prop := l.length = c ∧ c ≤ 8 ∧ ∀ v ∈ l, FineV v
theorem FineV.z : FineV Vl.z := ⟨by decide, by decide, Nat.zero_le _⟩
def padK (l : List Vl) : List Vl := l ++ List.replicate (8 - l.length) Vl.z
def flatK (l : List Vl) : List Value := l.flatMap vlC
def keyV (l : List Vl) : Value := .agg (flatK (padK l)).toArray
theorem padK_len {c : Nat} {l : List Vl} (h : FineK c l) : (padK l).length = 8 := by
  have h1 := h.1
  have h2 := h.2.1
  unfold padK
  rw [List.length_append, List.length_replicate]
  omega
theorem padK_fine {c : Nat} {l : List Vl} (h : FineK c l) : ∀ v ∈ padK l, FineV v := by
  intro v hv
  rcases List.mem_append.1 hv with h1 | h1
  · exact h.2.2 v h1
  · rw [(List.mem_replicate.1 h1).2]
    exact FineV.z
theorem list8 {α : Type} {l : List α} (h : l.length = 8) : ∃ a b c d e f g i, l = [a, b, c, d, e, f, g, i] := by
  match l, h with
  | [a, b, c, d, e, f, g, i], _ => exact ⟨a, b, c, d, e, f, g, i, rfl⟩
theorem cellsK : Tryz.prog.cellsOf 151 = 24 := by kernel_rfl
theorem cellsKV : Tryz.prog.cellsOf 57 = 3 := by kernel_rfl
theorem cellsKI : Tryz.prog.cellsOf 3 = 1 := by kernel_rfl
theorem cellsKI64 : Tryz.prog.cellsOf 2 = 1 := by kernel_rfl
theorem cellsKS : Tryz.prog.cellsOf 9 = 1 := by kernel_rfl
def litK (v : Vl) : List Lit := [.int .i64 v.k, .int .i64 v.n, .string v.s.data.toList]
theorem litV_is {v : Vl} (h : FineV v) (d : Nat) : Tryz.prog.keyLits (d + 2) 57 (vlC v) = some (litK v) := by
  obtain ⟨h1, h2, h3⟩ := h
  unfold Program.keyLits
  simp only [Tryz.underlying57, vlC]
  rw [if_pos (by rw [cellsKV]; exact ⟨rfl, by simp⟩)]
  simp only [List.mapM_cons, List.mapM_nil, cellsKI, cellsKI64, cellsKS]
  simp [Program.keyLits, Tryz.underlying3, Tryz.underlying2, Tryz.underlying9, h1, h2, h3, litK]
theorem keyLits_is {L : List Vl} (h8 : L.length = 8) (hf : ∀ v ∈ L, FineV v) (d : Nat) : Tryz.prog.keyLits (d + 3) 151 (flatK L) = some (L.map litK).flatten := by
  obtain ⟨v0, v1, v2, v3, v4, v5, v6, v7, rfl⟩ := list8 h8
  have e := fun v hv => litV_is (hf v hv) d
  simp only [List.mem_cons, List.not_mem_nil, or_false, forall_eq_or_imp, forall_eq] at e
  obtain ⟨e0, e1, e2, e3, e4, e5, e6, e7⟩ := e
  unfold Program.keyLits
  simp only [Tryz.underlying151]
  rw [if_pos (by rw [cellsK]; rfl)]
  simp only [vlC] at e0 e1 e2 e3 e4 e5 e6 e7
  simp only [cellsKV, show List.range 8 = [0, 1, 2, 3, 4, 5, 6, 7] from rfl, List.mapM_cons, List.mapM_nil]
  simp [flatK, vlC, e0, e1, e2, e3, e4, e5, e6, e7]
theorem sizeT2 : 2 ≤ Tryz.prog.types.size := of_decide_eq_true (by kernel_rfl)
theorem keyT : Tryz.prog.keyType 151 = true := by kernel_rfl
theorem keyOf_is {c : Nat} {l : List Vl} (h : FineK c l) : keyOf Tryz.prog 151 (keyV l) = some (.string (keyBytes ((padK l).map litK).flatten)) := by
  have h8 := padK_len h
  have h24 : (flatK (padK l)).length = 24 := by
    obtain ⟨v0, v1, v2, v3, v4, v5, v6, v7, e⟩ := list8 h8
    rw [e]
    rfl
  unfold keyOf keyV
  simp only [Tryz.underlying151]
  rw [if_pos (by simp [keyT, Value.formed, Tryz.underlying151, cellsK, h24])]
  obtain ⟨m, hm⟩ : ∃ m, Tryz.prog.types.size + 1 = m + 3 := ⟨Tryz.prog.types.size - 2, by have := sizeT2; omega⟩
  rw [hm]
  simp only [Value.cells]
  rw [keyLits_is h8 (padK_fine h)]
  rfl
def klK (l : List Vl) : Lit := .string (keyBytes ((padK l).map litK).flatten)
theorem hkeyK {c : Nat} {l : List Vl} (h : FineK c l) : keyOf Tryz.prog 151 (keyV l) = some (klK l) := keyOf_is h
theorem laidK : laidOutB Tryz.prog = true := by kernel_rfl
theorem rowK : (151 : TypeId) < Tryz.prog.types.size := of_decide_eq_true (by kernel_rfl)
theorem lawK : Keyed Tryz.prog 151 := Keyed.of_law (deep_law_laid laidK (m := 3) (by omega) rowK (by kernel_rfl) (by kernel_rfl))
theorem flatK_inj : ∀ {l m : List Vl}, flatK l = flatK m → l = m
  | [], [], _ => rfl
  | [], b :: m, h => by simp [flatK, vlC] at h
  | a :: l, [], h => by simp [flatK, vlC] at h
  | a :: l, b :: m, h => by
    obtain ⟨ak, an, as_⟩ := a
    obtain ⟨bk, bn, bs⟩ := b
    simp only [flatK, List.flatMap_cons, vlC, List.cons_append, List.nil_append, List.cons.injEq, Value.int.injEq, Value.string.injEq, true_and] at h
    obtain ⟨rfl, rfl, rfl, h4⟩ := h
    rw [flatK_inj (l := l) (m := m) h4]
theorem keyV_inj {c : Nat} {l m : List Vl} (h : FineK c l) (h' : FineK c m) (e : keyV l = keyV m) : l = m := by
  unfold keyV at e
  have e1 : (flatK (padK l)).toArray = (flatK (padK m)).toArray := by injection e
  have e2 : padK l = padK m := flatK_inj (by simpa using e1)
  unfold padK at e2
  exact List.append_inj_left e2 (h.1.trans h'.1.symm)
theorem klK_inj {c : Nat} {l m : List Vl} (h : FineK c l) (h' : FineK c m) (e : klK l = klK m) : l = m :=
  keyV_inj h h' (lawK.inj (hkeyK h) (e ▸ hkeyK h'))
theorem zeroKI (w : World) : (zeroValue 3).run Tryz.prog w = .ok (.int .i64 0) w := by kernel_rfl
def FirstIs (w : World) (B m c : Nat) (F : List Vl → Int) : Prop :=
  ∃ D : DataW Unit, w.ownsMap Tryz.prog 151 (plainElem Tryz.prog 3) B m D ∧ ∀ l, FineK c l → Maps.has D (klK l) = decide (0 ≤ F l) ∧ D.atKey (klK l) (.lit (.int .i64 0)) = .lit (.int .i64 (at0 (F l)))
theorem FirstIs.lt {w : World} {B m c : Nat} {F : List Vl → Int} (h : FirstIs w B m c F) : B < w.heap.size := by
  obtain ⟨D, h1, _⟩ := h
  exact h1.lt
theorem FirstIs.same {w w' : World} {B m c : Nat} {F : List Vl → Int} (h : FirstIs w B m c F) (hb : w'.heap[B]? = w.heap[B]?) : FirstIs w' B m c F := by
  obtain ⟨D, ⟨es, clock, h0, r⟩, h2⟩ := h
  exact ⟨D, ⟨es, clock, hb.trans h0, r⟩, h2⟩
theorem FirstIs.later {w w' : World} {B m c : Nat} {F : List Vl → Int} (h : FirstIs w B m c F) (hb : Below w.heap.size w w') : FirstIs w' B m c F := h.same (hb.block B h.lt)
theorem FirstIs.congr {w : World} {B m c : Nat} {F G : List Vl → Int} (h : FirstIs w B m c F) (e : ∀ l, FineK c l → F l = G l) : FirstIs w B m c G := by
  obtain ⟨D, h1, h2⟩ := h
  exact ⟨D, h1, fun l hl => by rw [← e l hl]; exact h2 l hl⟩
theorem FirstIs.made (w : World) (c : Nat) : FirstIs (w.alloc (.map #[] 0)) w.heap.size 0 c fun _ => -1 :=
  ⟨.map [], World.ownsMap_made w _ _ _, fun l _ => ⟨rfl, rfl⟩⟩
theorem FirstIs.look {w : World} {B m c : Nat} {F : List Vl → Int} (h : FirstIs w B m c F) {l : List Vl} (hl : FineK c l) :
    (Instr.lookup 132 (.map (some B)) (keyV l) false).run Tryz.prog w = .ok (.int .i64 (at0 (F l))) w := by
  obtain ⟨D, h1, h2⟩ := h
  obtain ⟨n, hrun, hat, _⟩ := h1.lookup_int lawK Tryz.underlying132 Tryz.underlying3 (zeroKI w) (hkeyK hl)
  rw [(h2 l hl).2] at hat
  have e : at0 (F l) = n := by simpa using hat
  rw [hrun, e]
theorem FirstIs.look_ok {w : World} {B m c : Nat} {F : List Vl → Int} (h : FirstIs w B m c F) {l : List Vl} (hl : FineK c l) :
    (Instr.lookup 132 (.map (some B)) (keyV l) true).run Tryz.prog w = .ok (.tuple #[.int .i64 (at0 (F l)), .bool (decide (0 ≤ F l))]) w := by
  obtain ⟨D, h1, h2⟩ := h
  obtain ⟨v, ps, hrun, hv⟩ := h1.look_ok lawK Tryz.underlying132 (zeroKI w) (plainElem_int Tryz.underlying3 (by decide : (Lit.int .i64 0).wf = true)) (hkeyK hl)
  obtain ⟨n, rfl, hc, _⟩ := plainElem_int_inv Tryz.underlying3 hv
  have hat := congrArg Prod.fst hc
  rw [(h2 l hl).2] at hat
  have e : at0 (F l) = n := by simpa using hat
  rw [hrun, (h2 l hl).1, e]
open Classical in
noncomputable def putF (F : List Vl → Int) (l : List Vl) (n : Int) (x : List Vl) : Int := if x = l then n else F x
theorem FirstIs.store {w : World} {B m c : Nat} {F : List Vl → Int} (h : FirstIs w B m c F) {l : List Vl} (hl : FineK c l) (hm : m < maxLen) {n : Nat} (hn : n ≤ 1000000) :
    ∃ w', (Instr.mapUpdate 132 (.map (some B)) (keyV l) (.int .i64 (n : Nat))).run Tryz.prog w = .ok () w' ∧ FirstIs w' B (m + 1) c (putF F l (n : Nat)) ∧ w.mapTurned w' B := by
  obtain ⟨D, h1, h2⟩ := h
  have hwf : (Lit.int .i64 ((n : Nat) : Int)).wf = true := by
    have h1 : IntKind.i64.min ≤ (n : Int) := Int.le_trans (by decide : IntKind.i64.min ≤ 0) (by omega)
    have h2 : (n : Int) ≤ IntKind.i64.max := Int.le_trans (by omega : (n : Int) ≤ 1000000) (by decide)
    simp [Lit.wf]
    exact ⟨h1, h2⟩
  obtain ⟨w', hrun, hown, ht⟩ := h1.store lawK Tryz.underlying132 hm (hkeyK hl) (plainElem_int Tryz.underlying3 hwf)
  refine ⟨w', hrun, ⟨_, hown, fun x hx => ?_⟩, ht⟩
  by_cases e : x = l
  · subst e
    rw [has_put_same h1.isMap (lawK.key (hkeyK hl)), atKey_put_same h1.isMap (lawK.key (hkeyK hl))]
    unfold putF
    rw [if_pos rfl]
    refine ⟨by simp, ?_⟩
    unfold at0
    rw [if_neg (by omega)]
  · have hne : klK x ≠ klK l := fun e2 => e (klK_inj hx hl e2)
    rw [has_put_other hne, atKey_put_other hne]
    unfold putF
    rw [if_neg e]
    exact h2 x hx
/-! ### at the operation -/
section
variable (w : World) {ops : Array Oper} {rest : List Oper} {o : Oper} {a : Act} {Q : Exit → Act → World → Prop}
theorem wpList_storeK (hg : o.guard = none) (m x v : Operand) (hop : o.op = Op.mapUpdate 132 m x v) (B k c n : Nat) (F : List Vl → Int) (hm : a.eval m = .map (some B)) (hown : FirstIs w B k c F) (hk : k < maxLen) (l : List Vl) (hl : FineK c l) (hx : a.eval x = keyV l) (hn : n ≤ 1000000) (hv : a.eval v = .int .i64 (n : Nat))
    (hK : ∀ w', FirstIs w' B (k + 1) c (putF F l (n : Nat)) → w.grownBy w' (some B) → wpList Tryz.prog ops Q rest (a.put o.dst undef) w') : wpList Tryz.prog ops Q (o :: rest) a w := by
  refine wpList_plain hg fun K' hK' => ?_
  obtain ⟨w', hrun, r1, r2⟩ := hown.store hl hk hn
  unfold Oper.wp
  simp [execOp, hop, hm, hx, hv, hrun, Result.andThen]
  exact hK' _ _ (hK w' r1 r2.grown)
end
end Go.Proofs.YtdmhmlnfoocnjaaGreatDoor
