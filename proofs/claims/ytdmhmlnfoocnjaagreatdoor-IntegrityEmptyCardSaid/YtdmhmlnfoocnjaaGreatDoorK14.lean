/-
  The first column with a name.
-/
import Derived.Test.YtdmhmlnfoocnjaaGreatDoorK09
import Derived.Test.YtdmhmlnfoocnjaaGreatDoorK13
import Derived.Test.YtdmhmlnfoocnjaaGreatDoorK10
set_option linter.unusedVariables false
namespace Go.Proofs.YtdmhmlnfoocnjaaGreatDoor
open Go Go.RowKit Go.Deep
def colP (f : Nat → Cl) (s : ByteArray) (i : Nat) : Bool := (f i).name.toList == s.toList
set_option maxHeartbeats 2000000 in
set_option maxRecDepth 20000 in
theorem colFn_calls (c : Cl) (s : ByteArray) (b : Nat) (w : World) (hb : w.cell? ⟨b, 0, none⟩ = some (.string s)) (hlt : b < w.heap.size) :
    Calls Tryz.prog 130 #[.agg #[.string c.name, .int .i64 c.ty, .bool c.null], .pointer (some ⟨b, 0, none⟩)] w fun r w' => r = .returned (.bool (c.name.toList == s.toList)) ∧ Cls w w' := by
  go_enter Tryz.func130, Tryz.ntmps130
  go_wp2_with fail
  go_ret
  refine ⟨ret_bool rfl, Cls.of ?_⟩
  repeat first|with_reducible exact Below.refl _ _|with_reducible refine Below.setCell ?_ (by first|omega|(simp;done)|(simp;omega)) _|with_reducible refine Below.alloc ?_ (by first|omega|(simp;done)|(simp;omega)) _|with_reducible refine Below.drew ?_|with_reducible refine Ext.on _ ?_ (by first|omega|(simp;done)|(simp;omega))
set_option maxHeartbeats 4000000 in
set_option maxRecDepth 20000 in
theorem indexC_calls (sl : Sl) (f : Nat → Cl) (s : ByteArray) (bx : Nat) (w : World) (h : SlAt w 3 sl fun i => (f i).cells) (hb : w.cell? ⟨bx, 0, none⟩ = some (.string s)) (hlt : bx < w.heap.size) :
    Calls Tryz.prog 150 #[.slice sl.a sl.len sl.cap, .func (.func 130) #[] #[.pointer (some ⟨bx, 0, none⟩)]] w fun r w' => r = .returned (.int .i64 (idx (colP f s) 0 sl.len)) ∧ Cls w w' := by
  have hle := h.1
  have hmax := h.2.1
  unfold maxLen at hmax
  have H := Lib.hid h
  obtain ⟨sa, sn, sc⟩ := sl
  simp only at hle hmax
  clear h
  go_enter Tryz.func150, Tryz.ntmps150
  go_wp2_with fail
  go_loopw [8] (fun i wr => ∃ j : Nat, j ≤ sn ∧ i = .int .i64 j ∧ idx (colP f s) 0 sn = idx (colP f s) j (sn - j) ∧ Cls w wr) (fun i _ => sn - (intOf i).toNat)
  case atStart => exact ⟨0, Nat.zero_le _, rfl, rfl, Cls.of (Below.refl _ _)⟩
  case round =>
    obtain ⟨j, hj, rfl, he, x, rfl⟩ := hrel
    have HE := Lib.hid he
    clear he
    have xs := x.size
    by_cases hltj : j < sn
    · obtain ⟨b, off, ha, hb2, hc⟩ := H.out.2.2.2 j hltj
      simp only at ha
      subst ha
      have q0 := hc 0 (by omega)
      have q1 := hc 1 (by omega)
      have q2 := hc 2 (by omega)
      simp only [Cl.cells, List.getElem?_cons_zero, List.getElem?_cons_succ, Nat.add_zero] at q0 q1 q2
      have hN : Hid (colP f s j = ((f j).name.toList == s.toList)) := Lib.hid rfl
      have hS : Hid (sn - j = (sn - (j + 1)) + 1) := Lib.hid (by omega)
      clear hc
      generalize f j = c at *
      cases hbb : c.name.toList == s.toList
      all_goals
        have HB := Lib.hid hbb
        have C1 : Hid (∀ W, Below w.heap.size w W → Calls Tryz.prog 130 #[.agg #[.string c.name, .int .i64 c.ty, .bool c.null], .pointer (some ⟨bx, 0, none⟩)] W fun r w' => r = .returned (.bool (c.name.toList == s.toList)) ∧ Cls W w') := Lib.hid (fun W hW => colFn_calls c s bx W (by rw [hW.cell (p := ⟨bx, 0, none⟩) hlt]; exact hb) (Nat.lt_of_lt_of_le hlt hW.size))
        rw [hbb] at C1
        clear hbb
        go_wp2_with (go_at_call 130; ((with_reducible refine (Cls.call (C1.out _ x.below)).mono ?_); rintro r _ ⟨rfl, y, rfl⟩))
      · go_roundw
        case rel => exact ⟨j + 1, by omega, by go_num, by rw [HE.out, hS.out, idx_go (by rw [hN.out, HB.out])], y, rfl⟩
        case measure => simp [intOf]; omega
      · go_ret
        exact ⟨ret_int (by rw [HE.out, hS.out, idx_stop (by rw [hN.out, HB.out])]), y, rfl⟩
    · have hz : Hid (sn - j = 0) := Lib.hid (by omega)
      go_wp2_with fail
      go_ret
      exact ⟨ret_int (by rw [HE.out, hz.out]; rfl), x, rfl⟩
set_option maxHeartbeats 2000000 in
set_option maxRecDepth 20000 in
theorem firstC_calls (sl : Sl) (f : Nat → Cl) (s : ByteArray) (bx : Nat) (w : World) (h : SlAt w 3 sl fun i => (f i).cells) (hb : w.cell? ⟨bx, 0, none⟩ = some (.string s)) (hlt : bx < w.heap.size) :
    Calls Tryz.prog 129 #[.slice sl.a sl.len sl.cap, .func (.func 130) #[] #[.pointer (some ⟨bx, 0, none⟩)]] w fun r w' => r = .returned (.tuple #[.int .i64 (at0 (idx (colP f s) 0 sl.len)), .bool (decide (0 ≤ idx (colP f s) 0 sl.len))]) ∧ Cls w w' := by
  have C1 := Lib.hid (indexC_calls sl f s bx w h hb hlt)
  have hbd := idx_bd (colP f s) sl.len 0
  clear h hb
  generalize idx (colP f s) 0 sl.len = r0 at C1 hbd ⊢
  by_cases hr : r0 < 0
  · have e1 : at0 r0 = 0 := by unfold at0; rw [if_pos hr]
    have d1 : decide (0 ≤ r0) = false := by simp; omega
    rw [e1, d1]
    go_enter Tryz.func129, Tryz.ntmps129
    go_wp2_with (go_at_call 150; ((with_reducible refine C1.out.mono ?_); rintro r _ ⟨rfl, y, rfl⟩))
    all_goals first
      | (exfalso; omega)
      | (go_ret2
         exact ⟨rfl, y, rfl⟩)
  · have e1 : at0 r0 = r0 := by unfold at0; rw [if_neg hr]
    have d1 : decide (0 ≤ r0) = true := by simp; omega
    rw [e1, d1]
    go_enter Tryz.func129, Tryz.ntmps129
    go_wp2_with (go_at_call 150; ((with_reducible refine C1.out.mono ?_); rintro r _ ⟨rfl, y, rfl⟩))
    all_goals first
      | (exfalso; omega)
      | (go_ret2
         exact ⟨rfl, y, rfl⟩)
set_option maxHeartbeats 2000000 in
set_option maxRecDepth 20000 in
theorem Column_calls (t : Tb) (s : ByteArray) (w : World) (h : TbAt w t) :
    Calls Tryz.prog 105 #[.agg #[.string t.name, .slice t.cs.a t.cs.len t.cs.cap, .slice t.ps.a t.ps.len t.ps.cap, .slice t.us.a t.us.len t.us.cap, .slice t.fs.a t.fs.len t.fs.cap, .slice t.ks.a t.ks.len t.ks.cap], .string s] w fun r w' => r = .returned (.tuple #[.int .i64 (at0 (idx (colP t.col s) 0 t.cs.len)), .bool (decide (0 ≤ idx (colP t.col s) 0 t.cs.len))]) ∧ Cls w w' := by
  have C1 : Hid (∀ W, Below w.heap.size w W → W.cell? ⟨w.heap.size + 1, 0, none⟩ = some (.string s) → w.heap.size + 1 < W.heap.size → Calls Tryz.prog 129 #[.slice t.cs.a t.cs.len t.cs.cap, .func (.func 130) #[] #[.pointer (some ⟨w.heap.size + 1, 0, none⟩)]] W fun r w' => r = .returned (.tuple #[.int .i64 (at0 (idx (colP t.col s) 0 t.cs.len)), .bool (decide (0 ≤ idx (colP t.col s) 0 t.cs.len))]) ∧ Cls W w') :=
    Lib.hid (fun W hW hc hl => firstC_calls t.cs t.col s _ W (h.cols.later hW) hc hl)
  clear h
  go_enter Tryz.func105, Tryz.ntmps105
  go_wp2_with (go_at_call 129; ((with_reducible refine (C1.out _ ?_ ?_ ?_).mono ?_); (· (repeat first|with_reducible exact Below.refl _ _|with_reducible refine Below.setCell ?_ (by first|omega|(simp;done)|(simp;omega)) _|with_reducible refine Below.alloc ?_ (by first|omega|(simp;done)|(simp;omega)) _|with_reducible refine Below.drew ?_|with_reducible refine Ext.on _ ?_ (by first|omega|(simp;done)|(simp;omega)))); (· simp [go_sem]); (· simp); rintro r _ ⟨rfl, y, rfl⟩))
  go_ret2
  refine ⟨rfl, Cls.of ?_⟩
  repeat first|with_reducible exact Below.refl _ _|with_reducible refine Below.setCell ?_ (by first|omega|(simp;done)|(simp;omega)) _|with_reducible refine Below.alloc ?_ (by first|omega|(simp;done)|(simp;omega)) _|with_reducible refine Below.drew ?_|with_reducible refine Ext.on _ ?_ (by first|omega|(simp;done)|(simp;omega))
set_option maxHeartbeats 2000000 in
set_option maxRecDepth 20000 in
theorem rColumn_calls (t : Tb) (s : ByteArray) (w : World) (h : TbAt w t) :
    Calls Tryz.prog 64 #[.agg #[.string t.name, .slice t.cs.a t.cs.len t.cs.cap, .slice t.ps.a t.ps.len t.ps.cap, .slice t.us.a t.us.len t.us.cap, .slice t.fs.a t.fs.len t.fs.cap, .slice t.ks.a t.ks.len t.ks.cap], .string s] w fun r w' => r = .returned (.tuple #[.int .i64 (at0 (idx (colP t.col s) 0 t.cs.len)), .bool (decide (0 ≤ idx (colP t.col s) 0 t.cs.len))]) ∧ Cls w w' := by
  have hle := h.cols.1
  have hmax := h.cols.2.1
  unfold maxLen at hmax
  have H := Lib.hid h.cols
  obtain ⟨tn, ⟨sa, sn, sc⟩, f, tps, tprim, tus, tuq, tuqn, tfs, tfk, tfkn, tfkt, tks, tch⟩ := t
  simp only at hle hmax H ⊢
  clear h
  go_enter Tryz.func64, Tryz.ntmps64
  go_wp2_with fail
  go_loopw [6] (fun i wr => ∃ j : Nat, j ≤ sn ∧ i = .int .i64 j ∧ idx (colP f s) 0 sn = idx (colP f s) j (sn - j) ∧ Cls (w.alloc (.cells #[.string tn, .slice sa sn sc, .slice tps.a tps.len tps.cap, .slice tus.a tus.len tus.cap, .slice tfs.a tfs.len tfs.cap, .slice tks.a tks.len tks.cap] 55)) wr) (fun i _ => sn - (intOf i).toNat)
  case atStart => exact ⟨0, Nat.zero_le _, rfl, rfl, Cls.of (Below.refl _ _)⟩
  case round =>
    obtain ⟨j, hj, rfl, he, x, rfl⟩ := hrel
    have HE := Lib.hid he
    clear he
    by_cases hltj : j < sn
    · obtain ⟨b, off, ha, hb2, hc⟩ := H.out.2.2.2 j hltj
      simp only at ha
      subst ha
      have q0 := hc 0 (by omega)
      have hb1 : b < w.heap.size + 1 := by omega
      simp only [Cl.cells, List.getElem?_cons_zero, Nat.add_zero] at q0
      have hN : Hid (colP f s j = ((f j).name.toList == s.toList)) := Lib.hid rfl
      have hS : Hid (sn - j = (sn - (j + 1)) + 1) := Lib.hid (by omega)
      clear hc
      generalize f j = c at *
      cases hbb : c.name.toList == s.toList
      · have HB := Lib.hid hbb
        go_wp2_with fail
        go_roundw
        case rel => exact ⟨j + 1, by omega, by go_num, by rw [HE.out, hS.out, idx_go (by rw [hN.out, HB.out])], x, rfl⟩
        case measure => simp [intOf]; omega
      · have HB := Lib.hid hbb
        have hI : idx (colP f s) 0 sn = j := by rw [HE.out, hS.out, idx_stop (by rw [hN.out, HB.out])]
        have e1 : at0 (j : Int) = j := by unfold at0; rw [if_neg (by omega)]
        have d1 : decide (0 ≤ (j : Int)) = true := by simp
        have hI2 := Lib.hid hI
        clear hI
        go_wp2_with fail
        go_ret2
        refine ⟨?_, Cls.of ?_⟩
        · show _ = Ending.returned (.tuple #[.int .i64 (at0 (idx (colP f s) 0 sn)), .bool (decide (0 ≤ idx (colP f s) 0 sn))])
          rw [hI2.out, e1, d1]; rfl
        · repeat first|with_reducible exact Below.refl _ _|with_reducible refine Below.setCell ?_ (by first|omega|(simp;done)|(simp;omega)) _|with_reducible refine Below.alloc ?_ (by first|omega|(simp;done)|(simp;omega)) _|with_reducible refine Below.drew ?_|with_reducible refine Ext.on _ ?_ (by first|omega|(simp;done)|(simp;omega))
    · have hz : sn - j = 0 := by omega
      have hI : idx (colP f s) 0 sn = -1 := by rw [HE.out, hz]; rfl
      have hI2 := Lib.hid hI
      clear hI hz
      go_wp2_with fail
      go_ret2
      refine ⟨?_, Cls.of ?_⟩
      · show _ = Ending.returned (.tuple #[.int .i64 (at0 (idx (colP f s) 0 sn)), .bool (decide (0 ≤ idx (colP f s) 0 sn))])
        rw [hI2.out]; rfl
      · repeat first|with_reducible exact Below.refl _ _|with_reducible refine Below.setCell ?_ (by first|omega|(simp;done)|(simp;omega)) _|with_reducible refine Below.alloc ?_ (by first|omega|(simp;done)|(simp;omega)) _|with_reducible refine Below.drew ?_|with_reducible refine Ext.on _ ?_ (by first|omega|(simp;done)|(simp;omega))
end Go.Proofs.YtdmhmlnfoocnjaaGreatDoor
set_option linter.unusedVariables false
namespace Go.Proofs.YtdmhmlnfoocnjaaGreatDoor
open Go Go.RowKit Go.Deep
def fstE (f : Nat → Int) : Nat → Nat → Int
  | _, 0 => 0
  | j, m + 1 => if f j = 0 then fstE f (j + 1) m else f j
theorem fstE_go {f : Nat → Int} {j m : Nat} (h : f j = 0) : fstE f j (m + 1) = fstE f (j + 1) m := by rw [fstE, if_pos h]
theorem fstE_stop {f : Nat → Int} {j m : Nat} (h : f j ≠ 0) : fstE f j (m + 1) = f j := by rw [fstE, if_neg h]
theorem fstE_of {f : Nat → Int} : ∀ (m j : Nat), fstE f j m = 0 → ∀ i, j ≤ i → i < j + m → f i = 0
  | 0, j, _, i, h1, h2 => by omega
  | m + 1, j, h, i, h1, h2 => by
    by_cases hj : f j = 0
    · rw [fstE_go hj] at h
      by_cases e : i = j
      · rw [e]; exact hj
      · exact fstE_of m (j + 1) h i (by omega) (by omega)
    · rw [fstE_stop hj] at h
      exact absurd h hj
def nameE (s : ByteArray) (tk : Bool) : Int := if nameB s = true then (if tk = true then 5 else 0) else 3
set_option maxHeartbeats 2000000 in
theorem nameError_calls (s : ByteArray) (tk : Bool) (w : World) (hs : s.size ≤ maxLen) :
    Calls Tryz.prog 45 #[.string s, .bool tk] w fun r w' => r = .returned (.int .i64 (nameE s tk)) ∧ Cls w w' := by
  have C1 := Lib.hid (Name_calls s w hs)
  unfold nameE
  generalize nameB s = nb at C1 ⊢
  go_enter Tryz.func45, Tryz.ntmps45
  cases nb <;> cases tk
  all_goals
    go_wp2_with (go_at_call 73; ((with_reducible refine C1.out.mono ?_); rintro r _ ⟨rfl, y, rfl⟩))
    go_ret
    exact ⟨rfl, y, rfl⟩
def colE1 (t : Tb) (i : Nat) : Int :=
  if nameE (t.col i).name (decide (at0 (idx (colP t.col (t.col i).name) 0 t.cs.len) < i)) = 0 then (if (t.col i).ty = 1 ∨ (t.col i).ty = 2 ∨ (t.col i).ty = 3 then 0 else 4)
  else nameE (t.col i).name (decide (at0 (idx (colP t.col (t.col i).name) 0 t.cs.len) < i))
theorem colE1_is (t : Tb) (i : Nat) : (nameE (t.col i).name (decide (at0 (idx (colP t.col (t.col i).name) 0 t.cs.len) < i)) = 0 → ((t.col i).ty = 1 ∨ (t.col i).ty = 2 ∨ (t.col i).ty = 3) → colE1 t i = 0) ∧ (nameE (t.col i).name (decide (at0 (idx (colP t.col (t.col i).name) 0 t.cs.len) < i)) = 0 → ¬ ((t.col i).ty = 1 ∨ (t.col i).ty = 2 ∨ (t.col i).ty = 3) → colE1 t i = 4) ∧ (nameE (t.col i).name (decide (at0 (idx (colP t.col (t.col i).name) 0 t.cs.len) < i)) ≠ 0 → colE1 t i = nameE (t.col i).name (decide (at0 (idx (colP t.col (t.col i).name) 0 t.cs.len) < i))) := by
  unfold colE1
  refine ⟨fun h1 h2 => ?_, fun h1 h2 => ?_, fun h1 => ?_⟩
  · rw [if_pos h1, if_pos h2]
  · rw [if_pos h1, if_neg h2]
  · rw [if_neg h1]
def colE (t : Tb) : Int := fstE (colE1 t) 0 t.cs.len
set_option maxHeartbeats 4000000 in
set_option maxRecDepth 20000 in
theorem columnError_calls (t : Tb) (w : World) (h : TbAt w t) :
    Calls Tryz.prog 74 #[.agg #[.string t.name, .slice t.cs.a t.cs.len t.cs.cap, .slice t.ps.a t.ps.len t.ps.cap, .slice t.us.a t.us.len t.us.cap, .slice t.fs.a t.fs.len t.fs.cap, .slice t.ks.a t.ks.len t.ks.cap]] w fun r w' => r = .returned (.int .i64 (colE t)) ∧ Cls w w' := by
  have hle := h.cols.1
  have hmax := h.cols.2.1
  unfold maxLen at hmax
  have H := Lib.hid h
  have HC : Hid (∀ s : ByteArray, ∀ W, Below w.heap.size w W → Calls Tryz.prog 105 #[.agg #[.string t.name, .slice t.cs.a t.cs.len t.cs.cap, .slice t.ps.a t.ps.len t.ps.cap, .slice t.us.a t.us.len t.us.cap, .slice t.fs.a t.fs.len t.fs.cap, .slice t.ks.a t.ks.len t.ks.cap], .string s] W fun r w' => r = .returned (.tuple #[.int .i64 (at0 (idx (colP t.col s) 0 t.cs.len)), .bool (decide (0 ≤ idx (colP t.col s) 0 t.cs.len))]) ∧ Cls W w') := Lib.hid fun s W hW => Column_calls t s W (h.later hW)
  have HE1 : Hid (∀ i, (nameE (t.col i).name (decide (at0 (idx (colP t.col (t.col i).name) 0 t.cs.len) < i)) = 0 → ((t.col i).ty = 1 ∨ (t.col i).ty = 2 ∨ (t.col i).ty = 3) → colE1 t i = 0) ∧ (nameE (t.col i).name (decide (at0 (idx (colP t.col (t.col i).name) 0 t.cs.len) < i)) = 0 → ¬ ((t.col i).ty = 1 ∨ (t.col i).ty = 2 ∨ (t.col i).ty = 3) → colE1 t i = 4) ∧ (nameE (t.col i).name (decide (at0 (idx (colP t.col (t.col i).name) 0 t.cs.len) < i)) ≠ 0 → colE1 t i = nameE (t.col i).name (decide (at0 (idx (colP t.col (t.col i).name) 0 t.cs.len) < i)))) := Lib.hid fun i => colE1_is t i
  have HX : Hid (colE t = fstE (colE1 t) 0 t.cs.len) := Lib.hid rfl
  clear h
  generalize colE t = ce at HX ⊢
  generalize hcf : colE1 t = cf at HX HE1
  have HCL : Hid (∀ i, i < t.cs.len → ∃ b off, t.cs.a = some ⟨b, off, none⟩ ∧ b < w.heap.size ∧ (∀ j, j < 3 → w.cell? ⟨b, off + i * 3 + j, none⟩ = ((t.col i).cells)[j]?) ∧ (t.col i).name.size ≤ maxLen) := Lib.hid fun i hi => by
    obtain ⟨b, off, ha, hb, hc⟩ := H.out.cols.2.2.2 i hi
    exact ⟨b, off, ha, hb, hc, (H.out.colf i hi).1⟩
  clear H hcf
  obtain ⟨tn, ⟨ca, cn, cc⟩, tf, tps, tprim, tus, tuq, tuqn, tfs, tfk, tfkn, tfkt, tks, tch⟩ := t
  simp only at hle hmax HC HE1 HX HCL ⊢
  go_enter Tryz.func74, Tryz.ntmps74
  go_wp2_with fail
  have hbl : (w.alloc (.cells #[.string tn, .slice ca cn cc, .slice tps.a tps.len tps.cap, .slice tus.a tus.len tus.cap, .slice tfs.a tfs.len tfs.cap, .slice tks.a tks.len tks.cap] 55)).heap[w.heap.size]? = some (.cells #[.string tn, .slice ca cn cc, .slice tps.a tps.len tps.cap, .slice tus.a tus.len tus.cap, .slice tfs.a tfs.len tfs.cap, .slice tks.a tks.len tks.cap] 55) := heap_alloc_new w _
  have HBL := Lib.hid hbl
  have HB0 : Hid (Below w.heap.size w (w.alloc (.cells #[.string tn, .slice ca cn cc, .slice tps.a tps.len tps.cap, .slice tus.a tus.len tus.cap, .slice tfs.a tfs.len tfs.cap, .slice tks.a tks.len tks.cap] 55))) := Lib.hid (by repeat first|with_reducible exact Below.refl _ _|with_reducible refine Below.setCell ?_ (by first|omega|(simp;done)|(simp;omega)) _|with_reducible refine Below.alloc ?_ (by first|omega|(simp;done)|(simp;omega)) _|with_reducible refine Below.drew ?_|with_reducible refine Ext.on _ ?_ (by first|omega|(simp;done)|(simp;omega)))
  have h0s : (w.alloc (.cells #[.string tn, .slice ca cn cc, .slice tps.a tps.len tps.cap, .slice tus.a tus.len tus.cap, .slice tfs.a tfs.len tfs.cap, .slice tks.a tks.len tks.cap] 55)).heap.size = w.heap.size + 1 := by simp
  clear hbl
  generalize (w.alloc (.cells #[.string tn, .slice ca cn cc, .slice tps.a tps.len tps.cap, .slice tus.a tus.len tus.cap, .slice tfs.a tfs.len tfs.cap, .slice tks.a tks.len tks.cap] 55)) = W0 at *
  go_loopw [11] (fun i wr => ∃ j : Nat, j ≤ cn ∧ i = .int .i64 j ∧ fstE cf 0 cn = fstE cf j (cn - j) ∧ Cls W0 wr) (fun i _ => cn - (intOf i).toNat)
  case atStart => exact ⟨0, Nat.zero_le _, rfl, rfl, Cls.of (Below.refl _ _)⟩
  case round =>
    obtain ⟨j, hj, rfl, he, x, rfl⟩ := hrel
    have HE := Lib.hid he
    clear he
    have xs := x.size
    have HBX : Hid (Below w.heap.size w x.val) := Lib.hid (HB0.out.trans (x.below.mono (by omega)))
    obtain ⟨b0, _, _, _, _, _, _, k0, k1, k2, k3, k4, k5⟩ := six_z ((x.below.block _ (by omega)).trans HBL.out)
    by_cases hltj : j < cn
    · obtain ⟨b, off, ha, hb2, hc, hns⟩ := HCL.out j hltj
      subst ha
      have q0 := hc 0 (by omega)
      have q1 := hc 1 (by omega)
      have q2 := hc 2 (by omega)
      simp only [Cl.cells, List.getElem?_cons_zero, List.getElem?_cons_succ, Nat.add_zero] at q0 q1 q2
      rw [← HBX.out.cell (p := ⟨b, _, none⟩) hb2] at q0 q1 q2
      have hb3 : b < x.val.heap.size := by omega
      have hS : Hid (cn - j = (cn - (j + 1)) + 1) := Lib.hid (by omega)
      have hP := Lib.hid (HE1.out j)
      have C1 := Lib.hid (HC.out (tf j).name)
      have C2 : Hid (∀ tk W, Calls Tryz.prog 45 #[.string (tf j).name, .bool tk] W fun r w' => r = .returned (.int .i64 (nameE (tf j).name tk)) ∧ Cls W w') := Lib.hid fun tk W => nameError_calls _ tk W hns
      clear hc hns
      generalize at0 (idx (colP tf (tf j).name) 0 cn) = a0 at C1 hP
      generalize decide (0 ≤ idx (colP tf (tf j).name) 0 cn) = bd at C1
      have C3 := Lib.hid (C2.out (decide (a0 < (j : Nat))))
      clear C2
      generalize nameE (tf j).name (decide (a0 < (j : Nat))) = ne at C3 hP
      generalize tf j = c at q0 q1 q2 C1 C3 hP
      obtain ⟨cname, cty, cnull⟩ := c
      simp only at q0 q1 q2 C1 C3 hP
      by_cases hne : ne = 0
      · have d1 : (ne == 0) = true := by simp [hne]
        have d2 : (ne != 0) = false := by simp [hne]
        have hP2 := Lib.hid (And.intro (hP.out.1 hne) (hP.out.2.1 hne))
        clear hne hP
        by_cases h1 : cty = 1
        · have d3 : (cty == 1) = true := by simp [h1]
          have d3' : (cty != 1) = false := by simp [h1]
          have hP3 : Hid (cf j = 0) := Lib.hid (hP2.out.1 (.inl h1))
          clear h1
          go_wp2_with (first | (go_at_call 105; ((with_reducible refine (C1.out _ (HBX.out.trans (((Below.refl _ _).alloc (Nat.le_refl _) _).mono HBX.out.size))).mono ?_); rintro r _ ⟨rfl, y, rfl⟩; obtain ⟨l1, l2, l3, l4, l5⟩ := y.lts (b := x.val.heap.size) (by simp); have ys := y.size; have ysz : x.val.heap.size + 1 ≤ y.val.heap.size := by simpa using ys)) | (go_at_call 45; ((with_reducible refine (C3.out _).mono ?_); rintro r _ ⟨rfl, z, rfl⟩; obtain ⟨l6, l7, l8, l9, l10⟩ := z.lts (b := x.val.heap.size) (by omega); have zs := z.size)))
          go_roundw
          case rel => exact ⟨j + 1, by omega, by go_num, by rw [HE.out, hS.out, fstE_go hP3.out], Cls.of (x.below.trans (Below.mono (((Below.refl _ _).alloc (Nat.le_refl _) _).trans ((y.below.mono (by simp)).trans (z.below.mono (by omega)))) x.size))⟩
          case measure => simp [intOf]; omega
        · have d3 : (cty == 1) = false := by simp [h1]
          have d3' : (cty != 1) = true := by simp [h1]
          by_cases h2 : cty = 2
          · have d4 : (cty == 2) = true := by simp [h2]
            have d4' : (cty != 2) = false := by simp [h2]
            have hP3 : Hid (cf j = 0) := Lib.hid (hP2.out.1 (.inr (.inl h2)))
            clear h1 h2
            go_wp2_with (first | (go_at_call 105; ((with_reducible refine (C1.out _ (HBX.out.trans (((Below.refl _ _).alloc (Nat.le_refl _) _).mono HBX.out.size))).mono ?_); rintro r _ ⟨rfl, y, rfl⟩; obtain ⟨l1, l2, l3, l4, l5⟩ := y.lts (b := x.val.heap.size) (by simp); have ys := y.size; have ysz : x.val.heap.size + 1 ≤ y.val.heap.size := by simpa using ys)) | (go_at_call 45; ((with_reducible refine (C3.out _).mono ?_); rintro r _ ⟨rfl, z, rfl⟩; obtain ⟨l6, l7, l8, l9, l10⟩ := z.lts (b := x.val.heap.size) (by omega); have zs := z.size)))
            go_roundw
            case rel => exact ⟨j + 1, by omega, by go_num, by rw [HE.out, hS.out, fstE_go hP3.out], Cls.of (x.below.trans (Below.mono (((Below.refl _ _).alloc (Nat.le_refl _) _).trans ((y.below.mono (by simp)).trans (z.below.mono (by omega)))) x.size))⟩
            case measure => simp [intOf]; omega
          · have d4 : (cty == 2) = false := by simp [h2]
            have d4' : (cty != 2) = true := by simp [h2]
            by_cases h3 : cty = 3
            · have d5 : (cty == 3) = true := by simp [h3]
              have d5' : (cty != 3) = false := by simp [h3]
              have hP3 : Hid (cf j = 0) := Lib.hid (hP2.out.1 (.inr (.inr h3)))
              clear h1 h2 h3
              go_wp2_with (first | (go_at_call 105; ((with_reducible refine (C1.out _ (HBX.out.trans (((Below.refl _ _).alloc (Nat.le_refl _) _).mono HBX.out.size))).mono ?_); rintro r _ ⟨rfl, y, rfl⟩; obtain ⟨l1, l2, l3, l4, l5⟩ := y.lts (b := x.val.heap.size) (by simp); have ys := y.size; have ysz : x.val.heap.size + 1 ≤ y.val.heap.size := by simpa using ys)) | (go_at_call 45; ((with_reducible refine (C3.out _).mono ?_); rintro r _ ⟨rfl, z, rfl⟩; obtain ⟨l6, l7, l8, l9, l10⟩ := z.lts (b := x.val.heap.size) (by omega); have zs := z.size)))
              go_roundw
              case rel => exact ⟨j + 1, by omega, by go_num, by rw [HE.out, hS.out, fstE_go hP3.out], Cls.of (x.below.trans (Below.mono (((Below.refl _ _).alloc (Nat.le_refl _) _).trans ((y.below.mono (by simp)).trans (z.below.mono (by omega)))) x.size))⟩
              case measure => simp [intOf]; omega
            · have d5 : (cty == 3) = false := by simp [h3]
              have d5' : (cty != 3) = true := by simp [h3]
              have hP3 : Hid (cf j = 4) := Lib.hid (hP2.out.2 (by omega))
              clear h1 h2 h3
              go_wp2_with (first | (go_at_call 105; ((with_reducible refine (C1.out _ (HBX.out.trans (((Below.refl _ _).alloc (Nat.le_refl _) _).mono HBX.out.size))).mono ?_); rintro r _ ⟨rfl, y, rfl⟩; obtain ⟨l1, l2, l3, l4, l5⟩ := y.lts (b := x.val.heap.size) (by simp); have ys := y.size; have ysz : x.val.heap.size + 1 ≤ y.val.heap.size := by simpa using ys)) | (go_at_call 45; ((with_reducible refine (C3.out _).mono ?_); rintro r _ ⟨rfl, z, rfl⟩; obtain ⟨l6, l7, l8, l9, l10⟩ := z.lts (b := x.val.heap.size) (by omega); have zs := z.size)))
              go_ret
              exact ⟨ret_int (by rw [HX.out, HE.out, hS.out, fstE_stop (by rw [hP3.out]; decide), hP3.out]), Cls.of (HBX.out.trans (Below.mono (((Below.refl _ _).alloc (Nat.le_refl _) _).trans ((y.below.mono (by simp)).trans (z.below.mono (by omega)))) HBX.out.size))⟩
      · have d1 : (ne == 0) = false := by simp [hne]
        have d2 : (ne != 0) = true := by simp [hne]
        have hP2 : Hid (cf j = ne) := Lib.hid (hP.out.2.2 hne)
        have HNE := Lib.hid hne
        clear hne hP
        go_wp2_with (first | (go_at_call 105; ((with_reducible refine (C1.out _ (HBX.out.trans (((Below.refl _ _).alloc (Nat.le_refl _) _).mono HBX.out.size))).mono ?_); rintro r _ ⟨rfl, y, rfl⟩; obtain ⟨l1, l2, l3, l4, l5⟩ := y.lts (b := x.val.heap.size) (by simp); have ys := y.size; have ysz : x.val.heap.size + 1 ≤ y.val.heap.size := by simpa using ys)) | (go_at_call 45; ((with_reducible refine (C3.out _).mono ?_); rintro r _ ⟨rfl, z, rfl⟩; obtain ⟨l6, l7, l8, l9, l10⟩ := z.lts (b := x.val.heap.size) (by omega); have zs := z.size)))
        go_ret
        exact ⟨ret_int (by rw [HX.out, HE.out, hS.out, fstE_stop (by rw [hP2.out]; exact HNE.out), hP2.out]), Cls.of (HBX.out.trans (Below.mono (((Below.refl _ _).alloc (Nat.le_refl _) _).trans ((y.below.mono (by simp)).trans (z.below.mono (by omega)))) HBX.out.size))⟩
    · have hz : Hid (cn - j = 0) := Lib.hid (by omega)
      go_wp2_with fail
      go_ret
      exact ⟨ret_int (by rw [HX.out, HE.out, hz.out]; rfl), Cls.of HBX.out⟩
end Go.Proofs.YtdmhmlnfoocnjaaGreatDoor
set_option linter.unusedVariables false
namespace Go.Proofs.YtdmhmlnfoocnjaaGreatDoor
open Go Go.RowKit Go.Deep
def tgN (sl : Sl) (tb : Nat → Tb) (i k : Nat) : Nat := (tgtI sl tb (i : Nat) (k : Nat)).toNat
theorem tgt_nat (sl : Sl) (tb : Nat → Tb) (i k : Nat) : tgtI sl tb (i : Nat) (k : Nat) = ((tgN sl tb i k : Nat) : Int) := by
  unfold tgN
  have : 0 ≤ tgtI sl tb (i : Nat) (k : Nat) := by
    unfold tgtI at0
    split <;> (try split) <;> (try split) <;> (try split) <;> (try split) <;> omega
  omega
theorem tg_lt {sl : Sl} {tb : Nat → Tb} {i k : Nat} (h : tgtB sl tb (i : Nat) (k : Nat) = true) : tgN sl tb i k < sl.len := by
  have hb := idx_bd (nameP tb ((tb i).fkt k)) sl.len 0
  have h1 := tgt_nat sl tb i k
  unfold tgtB at h
  unfold tgtI at h1
  simp only [Int.toNat_natCast] at h h1
  split at h
  · cases h
  · split at h
    · cases h
    · split at h
      · cases h
      · split at h
        · cases h
        · rename_i a1 a2 a3 a4
          rw [if_neg a1, if_neg a2, if_neg a3, if_neg a4] at h1
          have h2 : 0 ≤ idx (nameP tb ((tb i).fkt k)) 0 sl.len := of_decide_eq_true h
          unfold at0 at h1
          split at h1 <;> omega
def tgL (sl : Sl) (tb : Nat → Tb) (i : Nat) (k : Nat) : List Nat := (List.range k).map (tgN sl tb i)
theorem tgL_go (sl : Sl) (tb : Nat → Tb) (i k : Nat) : tgL sl tb i (k + 1) = tgL sl tb i k ++ [tgN sl tb i k] := by simp [tgL, List.range_succ]
theorem tgL_len (sl : Sl) (tb : Nat → Tb) (i k : Nat) : (tgL sl tb i k).length = k := by simp [tgL]
theorem tgL_at {sl : Sl} {tb : Nat → Tb} {i k j : Nat} (h : j < k) : (tgL sl tb i k).getD j 0 = tgN sl tb i j := by simp [tgL, List.getD, h]
def good (sl : Sl) (tb : Nat → Tb) (l : List Nat) (i : Nat) : Bool := !l.contains i && (tgL sl tb i (tb i).fs.len).all fun t => l.contains t
def ordL (sl : Sl) (tb : Nat → Tb) : Nat → List Nat
  | 0 => []
  | k + 1 => if 0 ≤ idx (good sl tb (ordL sl tb k)) 0 sl.len then ordL sl tb k ++ [(idx (good sl tb (ordL sl tb k)) 0 sl.len).toNat] else ordL sl tb k
theorem idx_good {p : Nat → Bool} : ∀ (m j : Nat), 0 ≤ idx p j m → p (idx p j m).toNat = true
  | 0, j, h => by simp [idx] at h
  | m + 1, j, h => by
    by_cases hp : p j = true
    · rw [idx_stop hp]
      simpa using hp
    · have hp' : p j = false := by simpa using hp
      rw [idx_go hp'] at h ⊢
      exact idx_good m (j + 1) h
theorem ordL_go {sl : Sl} {tb : Nat → Tb} {k : Nat} (h : 0 ≤ idx (good sl tb (ordL sl tb k)) 0 sl.len) : ordL sl tb (k + 1) = ordL sl tb k ++ [(idx (good sl tb (ordL sl tb k)) 0 sl.len).toNat] := if_pos h
theorem ordL_stop {sl : Sl} {tb : Nat → Tb} {k : Nat} (h : idx (good sl tb (ordL sl tb k)) 0 sl.len < 0) : ∀ d, ordL sl tb (k + d) = ordL sl tb k
  | 0 => rfl
  | d + 1 => by
    have ih := ordL_stop h d
    show (if 0 ≤ idx (good sl tb (ordL sl tb (k + d))) 0 sl.len then _ else ordL sl tb (k + d)) = _
    rw [ih, if_neg (by omega)]
def allT (sl : Sl) (tb : Nat → Tb) : Prop := ∀ i, i < sl.len → ∀ k, k < (tb i).fs.len → tgtB sl tb (i : Nat) (k : Nat) = true
def OrdIs (sl : Sl) (tb : Nat → Tb) (w : World) (r : Ending) (w' : World) : Prop :=
  (¬ allT sl tb ∧ r = .returned (.tuple #[.slice none 0 0, .int .i64 11]) ∧ Cls w w') ∨
  (allT sl tb ∧ (ordL sl tb sl.len).length < sl.len ∧ r = .returned (.tuple #[.slice none 0 0, .int .i64 7]) ∧ Cls w w') ∨
  (allT sl tb ∧ (ordL sl tb sl.len).length = sl.len ∧ ∃ s : Sl, r = .returned (.tuple #[.slice s.a s.len s.cap, .int .i64 0]) ∧ s.len = sl.len ∧ SlAt w' 1 s (intC fun i => (((ordL sl tb sl.len).getD i 0 : Nat) : Int)) ∧ Cls w w')
theorem idx_congr {p q : Nat → Bool} : ∀ (m j : Nat), (∀ i, j ≤ i → i < j + m → p i = q i) → idx p j m = idx q j m
  | 0, j, _ => rfl
  | m + 1, j, h => by
    have h0 := h j (by omega) (by omega)
    have ih := idx_congr m (j + 1) fun i h1 h2 => h i (by omega) (by omega)
    unfold idx
    rw [h0, ih]
theorem idx_none {p : Nat → Bool} : ∀ (m j : Nat), idx p j m < 0 ↔ ∀ i, j ≤ i → i < j + m → p i = false
  | 0, j => by
    constructor
    · intro _ i h1 h2
      omega
    · intro _
      show (-1 : Int) < 0
      omega
  | m + 1, j => by
    by_cases hp : p j = true
    · rw [idx_stop hp]
      constructor
      · intro h
        omega
      · intro h
        have := h j (by omega) (by omega)
        rw [hp] at this
        cases this
    · have hp' : p j = false := by simpa using hp
      rw [idx_go hp', idx_none m (j + 1)]
      constructor
      · intro h i h1 h2
        by_cases e : i = j
        · rw [e]; exact hp'
        · exact h i (by omega) (by omega)
      · intro h i h1 h2
        exact h i (by omega) (by omega)
end Go.Proofs.YtdmhmlnfoocnjaaGreatDoor
