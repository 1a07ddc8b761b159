/-
  A schema as an argument: its tables, their columns, keys and checks. The first table or column with a name: the program's search and the reference's. Find and Column, the program's and the reference's. The table that a foreign key names: the program's Target and the reference's.
-/
import Derived.Test.YtpddkljedhghkaaDoorJ01
import Derived.BigQuiet
set_option linter.unusedVariables false
namespace Go.Proofs.YtpddkljedhghkaaDoor
open Go Go.RowKit Go.ChangeShapes Go.WideShapes Go.Joins Go.Deep
theorem SlAt.congr {w : World} {k : Nat} {s : Sl} {c c' : Nat → List Value} (h : SlAt w k s c) (he : ∀ i, i < s.len → c i = c' i) : SlAt w k s c' := by
  refine ⟨h.1, h.2.1, h.2.2.1, fun i hi => ?_⟩
  obtain ⟨b, off, ha, hlt, hc⟩ := h.2.2.2 i hi
  exact ⟨b, off, ha, hlt, fun j hj => by rw [← he i hi]; exact hc j hj⟩
/-- A column. -/
structure Cl where
  name : ByteArray
  ty : Int
  null : Bool
instance : Inhabited Cl := ⟨⟨ByteArray.empty, 0, false⟩⟩
instance : Inhabited Sl := ⟨Sl.z⟩
def Cl.cells (c : Cl) : List Value := [.string c.name, .int .i64 c.ty, .bool c.null]
/-- A table, with the slices that hold its parts. -/
structure Tb where
  name : ByteArray
  cs : Sl
  col : Nat → Cl
  ps : Sl
  prim : Nat → Int
  us : Sl
  uq : Nat → Sl
  uqn : Nat → Nat → Int
  fs : Sl
  fk : Nat → Sl
  fkn : Nat → Nat → Int
  fkt : Nat → ByteArray
  ks : Sl
  checks : List Ex
instance : Inhabited Tb := ⟨⟨ByteArray.empty, Sl.z, fun _ => default, Sl.z, fun _ => 0, Sl.z, fun _ => Sl.z, fun _ _ => 0, Sl.z, fun _ => Sl.z, fun _ _ => 0, fun _ => ByteArray.empty, Sl.z, []⟩⟩
def Tb.cells (t : Tb) : List Value := [.string t.name, t.cs.v, t.ps.v, t.us.v, t.fs.v, t.ks.v]
def intC (f : Nat → Int) (i : Nat) : List Value := [.int .i64 (f i)]
structure TbAt (w : World) (t : Tb) : Prop where
  name : t.name.size ≤ maxLen
  cols : SlAt w 3 t.cs fun i => (t.col i).cells
  colf : ∀ i, i < t.cs.len → (t.col i).name.size ≤ maxLen ∧ (Lit.int .i64 (t.col i).ty).wf = true
  prim : SlAt w 1 t.ps (intC t.prim)
  uqs : SlAt w 1 t.us fun i => [(t.uq i).v]
  uqn : ∀ i, i < t.us.len → SlAt w 1 (t.uq i) (intC (t.uqn i))
  fks : SlAt w 2 t.fs fun i => [(t.fk i).v, .string (t.fkt i)]
  fkn : ∀ i, i < t.fs.len → SlAt w 1 (t.fk i) (intC (t.fkn i)) ∧ (t.fkt i).size ≤ maxLen
  kids : Kids w (fun _ => True) t.ks.a t.ks.len t.ks.cap t.checks
theorem TbAt.later {w w' : World} {t : Tb} (h : TbAt w t) (hb : Below w.heap.size w w') : TbAt w' t :=
  ⟨h.name, h.cols.later hb, h.colf, h.prim.later hb, h.uqs.later hb, fun i hi => (h.uqn i hi).later hb, h.fks.later hb, fun i hi => ⟨(h.fkn i hi).1.later hb, (h.fkn i hi).2⟩, h.kids.later hb⟩
/-- The tables of a schema. -/
def TabsAt (w : World) (s : Sl) (tb : Nat → Tb) : Prop := SlAt w 6 s (fun i => (tb i).cells) ∧ ∀ i, i < s.len → TbAt w (tb i)
theorem TabsAt.later {w w' : World} {s : Sl} {tb : Nat → Tb} (h : TabsAt w s tb) (hb : Below w.heap.size w w') : TabsAt w' s tb := ⟨h.1.later hb, fun i hi => (h.2 i hi).later hb⟩
section
variable {H : Type} {enc : TypeId × Value → H} {w : World} {base : Nat} {spare : Nat → Bool} {held : Bool}
end
end Go.Proofs.YtpddkljedhghkaaDoor
set_option linter.unusedVariables false
namespace Go.Proofs.YtpddkljedhghkaaDoor
open Go Go.RowKit Go.Deep
/-- The first index from j on, of m, with the property; -1 if there is none. -/
def idx (p : Nat → Bool) : Nat → Nat → Int
  | _, 0 => -1
  | j, m + 1 => if p j = true then (j : Int) else idx p (j + 1) m
theorem idx_stop {p : Nat → Bool} {j m : Nat} (h : p j = true) : idx p j (m + 1) = j := by rw [idx, if_pos h]
theorem idx_go {p : Nat → Bool} {j m : Nat} (h : p j = false) : idx p j (m + 1) = idx p (j + 1) m := by rw [idx, if_neg (by rw [h]; exact Bool.false_ne_true)]
theorem idx_bd (p : Nat → Bool) : ∀ m j, -1 ≤ idx p j m ∧ (idx p j m < 0 ∨ idx p j m < j + m)
  | 0, j => by simp [idx]
  | m + 1, j => by
    unfold idx
    split
    · omega
    · have := idx_bd p m (j + 1); omega
def nameP (tb : Nat → Tb) (s : ByteArray) (i : Nat) : Bool := (tb i).name.toList == s.toList
set_option maxHeartbeats 2000000 in
set_option maxRecDepth 20000 in
theorem tabFn_calls (t : Tb) (s : ByteArray) (b : Nat) (w : World) (hb : w.cell? ⟨b, 0, none⟩ = some (.string s)) (hlt : b < w.heap.size) :
    Calls Tryd.prog 96 #[.agg #[.string t.name, .slice t.cs.a t.cs.len t.cs.cap, .slice t.ps.a t.ps.len t.ps.cap, .slice t.us.a t.us.len t.us.cap, .slice t.fs.a t.fs.len t.fs.cap, .slice t.ks.a t.ks.len t.ks.cap], .pointer (some ⟨b, 0, none⟩)] w fun r w' => r = .returned (.bool (t.name.toList == s.toList)) ∧ Cls w w' := by
  go_enter Tryd.func96, Tryd.ntmps96
  go_wp2_with fail
  go_ret
  refine ⟨ret_bool rfl, Cls.of ?_⟩
  repeat first | with_reducible exact Below.refl _ _ | with_reducible refine Below.setCell ?_ (by first | omega | (simp; done) | (simp; omega)) _ | with_reducible refine Below.alloc ?_ (by first | omega | (simp; done) | (simp; omega)) _ | with_reducible refine Below.drew ?_ | with_reducible refine Ext.on _ ?_ (by first | omega | (simp; done) | (simp; omega))
set_option maxHeartbeats 4000000 in
set_option maxRecDepth 20000 in
theorem indexT_calls (sl : Sl) (tb : Nat → Tb) (s : ByteArray) (bx : Nat) (w : World) (h : TabsAt w sl tb) (hb : w.cell? ⟨bx, 0, none⟩ = some (.string s)) (hlt : bx < w.heap.size) :
    Calls Tryd.prog 125 #[.slice sl.a sl.len sl.cap, .func (.func 96) #[] #[.pointer (some ⟨bx, 0, none⟩)]] w fun r w' => r = .returned (.int .i64 (idx (nameP tb s) 0 sl.len)) ∧ Cls w w' := by
  have hle := h.1.1
  have hmax := h.1.2.1
  unfold maxLen at hmax
  have H := Lib.hid h
  obtain ⟨sa, sn, sc⟩ := sl
  simp only at hle hmax
  clear h
  go_enter Tryd.func125, Tryd.ntmps125
  go_wp2_with fail
  go_loopw [8] (fun i wr => ∃ j : Nat, j ≤ sn ∧ i = .int .i64 j ∧ idx (nameP tb s) 0 sn = idx (nameP tb s) j (sn - j) ∧ Cls w wr) (fun i _ => sn - (intOf i).toNat)
  case atStart => exact ⟨0, Nat.zero_le _, rfl, rfl, Cls.of (Below.refl _ _)⟩
  case round =>
    obtain ⟨j, hj, rfl, he, x, rfl⟩ := hrel
    have HE := Lib.hid he
    clear he
    have xs := x.size
    by_cases hltj : j < sn
    · obtain ⟨b, off, ha, hb2, hc⟩ := H.out.1.2.2.2 j hltj
      simp only at ha
      subst ha
      have q0 := hc 0 (by omega)
      have q1 := hc 1 (by omega)
      have q2 := hc 2 (by omega)
      have q3 := hc 3 (by omega)
      have q4 := hc 4 (by omega)
      have q5 := hc 5 (by omega)
      simp only [Tb.cells, Sl.v, List.getElem?_cons_zero, List.getElem?_cons_succ, Nat.add_zero] at q0 q1 q2 q3 q4 q5
      have hN : Hid (nameP tb s j = ((tb j).name.toList == s.toList)) := Lib.hid rfl
      have hS : Hid (sn - j = (sn - (j + 1)) + 1) := Lib.hid (by omega)
      clear hc
      generalize tb j = t at *
      cases hbb : t.name.toList == s.toList
      all_goals
        have HB := Lib.hid hbb
        have C1 : Hid (∀ W, Below w.heap.size w W → Calls Tryd.prog 96 #[.agg #[.string t.name, .slice t.cs.a t.cs.len t.cs.cap, .slice t.ps.a t.ps.len t.ps.cap, .slice t.us.a t.us.len t.us.cap, .slice t.fs.a t.fs.len t.fs.cap, .slice t.ks.a t.ks.len t.ks.cap], .pointer (some ⟨bx, 0, none⟩)] W fun r w' => r = .returned (.bool (t.name.toList == s.toList)) ∧ Cls W w') := Lib.hid (fun W hW => tabFn_calls t s bx W (by rw [hW.cell (p := ⟨bx, 0, none⟩) hlt]; exact hb) (Nat.lt_of_lt_of_le hlt hW.size))
        rw [hbb] at C1
        clear hbb
        go_wp2_with (go_at_call 96; ((with_reducible refine (Cls.call (C1.out _ x.below)).mono ?_); rintro r _ ⟨rfl, y, rfl⟩))
      · go_roundw
        case rel => exact ⟨j + 1, by omega, by go_num, by rw [HE.out, hS.out, idx_go (by rw [hN.out, HB.out])], y, rfl⟩
        case measure => simp [intOf]; omega
      · go_ret
        exact ⟨ret_int (by rw [HE.out, hS.out, idx_stop (by rw [hN.out, HB.out])]), y, rfl⟩
    · have hz : Hid (sn - j = 0) := Lib.hid (by omega)
      go_wp2_with fail
      go_ret
      exact ⟨ret_int (by rw [HE.out, hz.out]; rfl), x, rfl⟩
end Go.Proofs.YtpddkljedhghkaaDoor
set_option linter.unusedVariables false
namespace Go.Proofs.YtpddkljedhghkaaDoor
open Go Go.RowKit Go.Deep
def at0 (r : Int) : Int := if r < 0 then 0 else r
set_option maxHeartbeats 2000000 in
set_option maxRecDepth 20000 in
theorem firstT_calls (sl : Sl) (tb : Nat → Tb) (s : ByteArray) (bx : Nat) (w : World) (h : TabsAt w sl tb) (hb : w.cell? ⟨bx, 0, none⟩ = some (.string s)) (hlt : bx < w.heap.size) :
    Calls Tryd.prog 95 #[.slice sl.a sl.len sl.cap, .func (.func 96) #[] #[.pointer (some ⟨bx, 0, none⟩)]] w fun r w' => r = .returned (.tuple #[.int .i64 (at0 (idx (nameP tb s) 0 sl.len)), .bool (decide (0 ≤ idx (nameP tb s) 0 sl.len))]) ∧ Cls w w' := by
  have C1 := Lib.hid (indexT_calls sl tb s bx w h hb hlt)
  have hbd := idx_bd (nameP tb s) sl.len 0
  clear h hb
  generalize idx (nameP tb s) 0 sl.len = r0 at C1 hbd ⊢
  by_cases hr : r0 < 0
  · have e1 : at0 r0 = 0 := by unfold at0; rw [if_pos hr]
    have d1 : decide (0 ≤ r0) = false := by simp; omega
    rw [e1, d1]
    go_enter Tryd.func95, Tryd.ntmps95
    go_wp2_with (go_at_call 125; ((with_reducible refine C1.out.mono ?_); rintro r _ ⟨rfl, y, rfl⟩))
    all_goals first
      | (exfalso; omega)
      | (go_ret2
         exact ⟨rfl, y, rfl⟩)
  · have e1 : at0 r0 = r0 := by unfold at0; rw [if_neg hr]
    have d1 : decide (0 ≤ r0) = true := by simp; omega
    rw [e1, d1]
    go_enter Tryd.func95, Tryd.ntmps95
    go_wp2_with (go_at_call 125; ((with_reducible refine C1.out.mono ?_); rintro r _ ⟨rfl, y, rfl⟩))
    all_goals first
      | (exfalso; omega)
      | (go_ret2
         exact ⟨rfl, y, rfl⟩)
set_option maxHeartbeats 2000000 in
set_option maxRecDepth 20000 in
theorem Find_calls (sl : Sl) (tb : Nat → Tb) (s : ByteArray) (w : World) (h : TabsAt w sl tb) :
    Calls Tryd.prog 53 #[.agg #[.slice sl.a sl.len sl.cap], .string s] w fun r w' => r = .returned (.tuple #[.int .i64 (at0 (idx (nameP tb s) 0 sl.len)), .bool (decide (0 ≤ idx (nameP tb s) 0 sl.len))]) ∧ Cls w w' := by
  have C1 : Hid (∀ W, Below w.heap.size w W → W.cell? ⟨w.heap.size + 1, 0, none⟩ = some (.string s) → w.heap.size + 1 < W.heap.size → Calls Tryd.prog 95 #[.slice sl.a sl.len sl.cap, .func (.func 96) #[] #[.pointer (some ⟨w.heap.size + 1, 0, none⟩)]] W fun r w' => r = .returned (.tuple #[.int .i64 (at0 (idx (nameP tb s) 0 sl.len)), .bool (decide (0 ≤ idx (nameP tb s) 0 sl.len))]) ∧ Cls W w') :=
    Lib.hid (fun W hW hc hl => firstT_calls sl tb s _ W (h.later hW) hc hl)
  clear h
  go_enter Tryd.func53, Tryd.ntmps53
  go_wp2_with (go_at_call 95; ((with_reducible refine (C1.out _ ?_ ?_ ?_).mono ?_); (· (repeat first | with_reducible exact Below.refl _ _ | with_reducible refine Below.setCell ?_ (by first | omega | (simp; done) | (simp; omega)) _ | with_reducible refine Below.alloc ?_ (by first | omega | (simp; done) | (simp; omega)) _ | with_reducible refine Below.drew ?_ | with_reducible refine Ext.on _ ?_ (by first | omega | (simp; done) | (simp; omega)))); (· simp [go_sem]); (· simp); rintro r _ ⟨rfl, y, rfl⟩))
  go_ret2
  refine ⟨rfl, Cls.of ?_⟩
  repeat first | with_reducible exact Below.refl _ _ | with_reducible refine Below.setCell ?_ (by first | omega | (simp; done) | (simp; omega)) _ | with_reducible refine Below.alloc ?_ (by first | omega | (simp; done) | (simp; omega)) _ | with_reducible refine Below.drew ?_ | with_reducible refine Ext.on _ ?_ (by first | omega | (simp; done) | (simp; omega))
set_option maxHeartbeats 2000000 in
set_option maxRecDepth 20000 in
theorem rFind_calls (sl : Sl) (tb : Nat → Tb) (s : ByteArray) (w : World) (h : TabsAt w sl tb) :
    Calls Tryd.prog 59 #[.agg #[.slice sl.a sl.len sl.cap], .string s] w fun r w' => r = .returned (.tuple #[.int .i64 (at0 (idx (nameP tb s) 0 sl.len)), .bool (decide (0 ≤ idx (nameP tb s) 0 sl.len))]) ∧ Cls w w' := by
  have hle := h.1.1
  have hmax := h.1.2.1
  unfold maxLen at hmax
  have H := Lib.hid h
  obtain ⟨sa, sn, sc⟩ := sl
  simp only at hle hmax
  clear h
  go_enter Tryd.func59, Tryd.ntmps59
  go_wp2_with fail
  go_loopw [6] (fun i wr => ∃ j : Nat, j ≤ sn ∧ i = .int .i64 j ∧ idx (nameP tb s) 0 sn = idx (nameP tb s) j (sn - j) ∧ Cls (w.alloc (.cells #[.slice sa sn sc] 45)) wr) (fun i _ => sn - (intOf i).toNat)
  case atStart => exact ⟨0, Nat.zero_le _, rfl, rfl, Cls.of (Below.refl _ _)⟩
  case round =>
    obtain ⟨j, hj, rfl, he, x, rfl⟩ := hrel
    have HE := Lib.hid he
    clear he
    by_cases hltj : j < sn
    · obtain ⟨b, off, ha, hb2, hc⟩ := H.out.1.2.2.2 j hltj
      simp only at ha
      subst ha
      have q0 := hc 0 (by omega)
      have hb1 : b < w.heap.size + 1 := by omega
      simp only [Tb.cells, Sl.v, List.getElem?_cons_zero, Nat.add_zero] at q0
      have hN : Hid (nameP tb s j = ((tb j).name.toList == s.toList)) := Lib.hid rfl
      have hS : Hid (sn - j = (sn - (j + 1)) + 1) := Lib.hid (by omega)
      clear hc
      generalize tb j = t at *
      cases hbb : t.name.toList == s.toList
      · have HB := Lib.hid hbb
        go_wp2_with fail
        go_roundw
        case rel => exact ⟨j + 1, by omega, by go_num, by rw [HE.out, hS.out, idx_go (by rw [hN.out, HB.out])], x, rfl⟩
        case measure => simp [intOf]; omega
      · have HB := Lib.hid hbb
        have hI : idx (nameP tb s) 0 sn = j := by rw [HE.out, hS.out, idx_stop (by rw [hN.out, HB.out])]
        have e1 : at0 (j : Int) = j := by unfold at0; rw [if_neg (by omega)]
        have d1 : decide (0 ≤ (j : Int)) = true := by simp
        have hI2 := Lib.hid hI
        clear hI
        go_wp2_with fail
        go_ret2
        refine ⟨?_, Cls.of ?_⟩
        · show _ = Ending.returned (.tuple #[.int .i64 (at0 (idx (nameP tb s) 0 sn)), .bool (decide (0 ≤ idx (nameP tb s) 0 sn))])
          rw [hI2.out, e1, d1]; rfl
        · repeat first | with_reducible exact Below.refl _ _ | with_reducible refine Below.setCell ?_ (by first | omega | (simp; done) | (simp; omega)) _ | with_reducible refine Below.alloc ?_ (by first | omega | (simp; done) | (simp; omega)) _ | with_reducible refine Below.drew ?_ | with_reducible refine Ext.on _ ?_ (by first | omega | (simp; done) | (simp; omega))
    · have hz : sn - j = 0 := by omega
      have hI : idx (nameP tb s) 0 sn = -1 := by rw [HE.out, hz]; rfl
      have hI2 := Lib.hid hI
      clear hI hz
      go_wp2_with fail
      go_ret2
      refine ⟨?_, Cls.of ?_⟩
      · show _ = Ending.returned (.tuple #[.int .i64 (at0 (idx (nameP tb s) 0 sn)), .bool (decide (0 ≤ idx (nameP tb s) 0 sn))])
        rw [hI2.out]; rfl
      · repeat first | with_reducible exact Below.refl _ _ | with_reducible refine Below.setCell ?_ (by first | omega | (simp; done) | (simp; omega)) _ | with_reducible refine Below.alloc ?_ (by first | omega | (simp; done) | (simp; omega)) _ | with_reducible refine Below.drew ?_ | with_reducible refine Ext.on _ ?_ (by first | omega | (simp; done) | (simp; omega))
end Go.Proofs.YtpddkljedhghkaaDoor
set_option linter.unusedVariables false
namespace Go.Proofs.YtpddkljedhghkaaDoor
open Go Go.RowKit Go.Deep
def tgtI (sl : Sl) (tb : Nat → Tb) (i k : Int) : Int := if i < 0 then 0 else if (sl.len : Int) ≤ i then 0 else if k < 0 then 0 else if ((tb i.toNat).fs.len : Int) ≤ k then 0 else at0 (idx (nameP tb ((tb i.toNat).fkt k.toNat)) 0 sl.len)
def tgtB (sl : Sl) (tb : Nat → Tb) (i k : Int) : Bool := if i < 0 then false else if (sl.len : Int) ≤ i then false else if k < 0 then false else if ((tb i.toNat).fs.len : Int) ≤ k then false else decide (0 ≤ idx (nameP tb ((tb i.toNat).fkt k.toNat)) 0 sl.len)
def TgtOf (f : FuncId) : Prop := ∀ (sl : Sl) (tb : Nat → Tb) (i k : Int) (w : World), TabsAt w sl tb →
    Calls Tryd.prog f #[.agg #[.slice sl.a sl.len sl.cap], .int .i64 i, .int .i64 k] w fun r w' => r = .returned (.tuple #[.int .i64 (tgtI sl tb i k), .bool (tgtB sl tb i k)]) ∧ Cls w w'
set_option maxHeartbeats 4000000 in
set_option maxRecDepth 20000 in
theorem Target_calls : TgtOf 101 := by
  intro sl tb i k w h
  have hle := h.1.1
  have hmax := h.1.2.1
  unfold maxLen at hmax
  have H := Lib.hid h
  clear h
  by_cases h1 : i < 0
  · have e1 : tgtI sl tb i k = 0 := by unfold tgtI; rw [if_pos h1]
    have e2 : tgtB sl tb i k = false := by unfold tgtB; rw [if_pos h1]
    rw [e1, e2]
    have d1 : decide (i < 0) = true := by simpa using h1
    go_enter Tryd.func101, Tryd.ntmps101
    go_wp2_with fail
    go_ret2
    refine ⟨rfl, Cls.of ?_⟩
    repeat first | with_reducible exact Below.refl _ _ | with_reducible refine Below.setCell ?_ (by first | omega | (simp; done) | (simp; omega)) _ | with_reducible refine Below.alloc ?_ (by first | omega | (simp; done) | (simp; omega)) _ | with_reducible refine Below.drew ?_ | with_reducible refine Ext.on _ ?_ (by first | omega | (simp; done) | (simp; omega))
  · have d1 : decide (i < 0) = false := by simpa using h1
    by_cases h2 : (sl.len : Int) ≤ i
    · have e1 : tgtI sl tb i k = 0 := by unfold tgtI; rw [if_neg h1, if_pos h2]
      have e2 : tgtB sl tb i k = false := by unfold tgtB; rw [if_neg h1, if_pos h2]
      rw [e1, e2]
      have d2 : decide ((sl.len : Int) ≤ i) = true := by simpa using h2
      go_enter Tryd.func101, Tryd.ntmps101
      go_wp2_with fail
      go_ret2
      refine ⟨rfl, Cls.of ?_⟩
      repeat first | with_reducible exact Below.refl _ _ | with_reducible refine Below.setCell ?_ (by first | omega | (simp; done) | (simp; omega)) _ | with_reducible refine Below.alloc ?_ (by first | omega | (simp; done) | (simp; omega)) _ | with_reducible refine Below.drew ?_ | with_reducible refine Ext.on _ ?_ (by first | omega | (simp; done) | (simp; omega))
    · obtain ⟨n, rfl⟩ : ∃ n : Nat, i = (n : Int) := ⟨i.toNat, by omega⟩
      have hn : n < sl.len := by omega
      have d2 : decide ((sl.len : Int) ≤ (n : Int)) = false := by simpa using h2
      obtain ⟨b, off, ha, hb2, hc⟩ := H.out.1.2.2.2 n hn
      have q4 := hc 4 (by omega)
      simp only [Tb.cells, Sl.v, List.getElem?_cons_zero, List.getElem?_cons_succ] at q4
      have hb1 : b < w.heap.size + 1 := by omega
      obtain ⟨sa, sn, sc⟩ := sl
      simp only at ha hn hle hmax q4 d2 h2
      subst ha
      have HT := Lib.hid (H.out.2 n hn)
      have hfl := HT.out.fks.1
      have hfm := HT.out.fks.2.1
      unfold maxLen at hfm
      clear hc
      by_cases h3 : k < 0
      · have e1 : tgtI ⟨some ⟨b, off, none⟩, sn, sc⟩ tb n k = 0 := by unfold tgtI; rw [if_neg h1, if_neg h2, if_pos h3]
        have e2 : tgtB ⟨some ⟨b, off, none⟩, sn, sc⟩ tb n k = false := by unfold tgtB; rw [if_neg h1, if_neg h2, if_pos h3]
        rw [e1, e2]
        have d3 : decide (k < 0) = true := by simpa using h3
        go_enter Tryd.func101, Tryd.ntmps101
        go_wp2_with fail
        go_ret2
        refine ⟨rfl, Cls.of ?_⟩
        repeat first | with_reducible exact Below.refl _ _ | with_reducible refine Below.setCell ?_ (by first | omega | (simp; done) | (simp; omega)) _ | with_reducible refine Below.alloc ?_ (by first | omega | (simp; done) | (simp; omega)) _ | with_reducible refine Below.drew ?_ | with_reducible refine Ext.on _ ?_ (by first | omega | (simp; done) | (simp; omega))
      · have d3 : decide (k < 0) = false := by simpa using h3
        by_cases h4 : ((tb n).fs.len : Int) ≤ k
        · have e1 : tgtI ⟨some ⟨b, off, none⟩, sn, sc⟩ tb n k = 0 := by unfold tgtI; rw [if_neg h1, if_neg h2, if_neg h3]; exact if_pos h4
          have e2 : tgtB ⟨some ⟨b, off, none⟩, sn, sc⟩ tb n k = false := by unfold tgtB; rw [if_neg h1, if_neg h2, if_neg h3]; exact if_pos h4
          rw [e1, e2]
          have d4 : decide (((tb n).fs.len : Int) ≤ k) = true := by simpa using h4
          go_enter Tryd.func101, Tryd.ntmps101
          go_wp2_with fail
          go_ret2
          refine ⟨rfl, Cls.of ?_⟩
          repeat first | with_reducible exact Below.refl _ _ | with_reducible refine Below.setCell ?_ (by first | omega | (simp; done) | (simp; omega)) _ | with_reducible refine Below.alloc ?_ (by first | omega | (simp; done) | (simp; omega)) _ | with_reducible refine Below.drew ?_ | with_reducible refine Ext.on _ ?_ (by first | omega | (simp; done) | (simp; omega))
        · obtain ⟨m, rfl⟩ : ∃ m : Nat, k = (m : Int) := ⟨k.toNat, by omega⟩
          have hm : m < (tb n).fs.len := by omega
          have d4 : decide (((tb n).fs.len : Int) ≤ (m : Int)) = false := by simpa using h4
          obtain ⟨b', off', ha', hb2', hc'⟩ := HT.out.fks.2.2.2 m hm
          have r1 := hc' 1 (by omega)
          simp only [List.getElem?_cons_zero, List.getElem?_cons_succ] at r1
          have hb1' : b' < w.heap.size + 1 := by omega
          have e1 : tgtI ⟨some ⟨b, off, none⟩, sn, sc⟩ tb n m = at0 (idx (nameP tb ((tb n).fkt m)) 0 sn) := by unfold tgtI; rw [if_neg h1, if_neg h2, if_neg h3]; exact if_neg h4
          have e2 : tgtB ⟨some ⟨b, off, none⟩, sn, sc⟩ tb n m = decide (0 ≤ idx (nameP tb ((tb n).fkt m)) 0 sn) := by unfold tgtB; rw [if_neg h1, if_neg h2, if_neg h3]; exact if_neg h4
          rw [e1, e2]
          have C1 : Hid (∀ W, Below w.heap.size w W → Calls Tryd.prog 53 #[.agg #[.slice (some ⟨b, off, none⟩) sn sc], .string ((tb n).fkt m)] W fun r w' => r = .returned (.tuple #[.int .i64 (at0 (idx (nameP tb ((tb n).fkt m)) 0 sn)), .bool (decide (0 ≤ idx (nameP tb ((tb n).fkt m)) 0 sn))]) ∧ Cls W w') := Lib.hid (fun W hW => Find_calls ⟨some ⟨b, off, none⟩, sn, sc⟩ tb ((tb n).fkt m) W (H.out.later hW))
          clear e1 e2 hc'
          generalize hfs : (tb n).fs = fs at *
          obtain ⟨fa, fn, fc⟩ := fs
          simp only at ha' hm d4 hfl hfm q4
          subst ha'
          generalize (tb n).fkt m = s at *
          generalize idx (nameP tb s) 0 sn = r0 at C1 ⊢
          go_enter Tryd.func101, Tryd.ntmps101
          go_wp2_with fail
          refine wp_region_ext (by kernel_rfl) (by kernel_rfl) ?_
          repeat (go_big_quiet_step ((go_at_call 53; exact Cls.call (C1.out _ (by repeat first | with_reducible exact Below.refl _ _ | with_reducible refine Below.setCell ?_ (by first | omega | (simp; done) | (simp; omega)) _ | with_reducible refine Below.alloc ?_ (by first | omega | (simp; done) | (simp; omega)) _ | with_reducible refine Below.drew ?_ | with_reducible refine Ext.on _ ?_ (by first | omega | (simp; done) | (simp; omega)))))))
          refine wpQuiet_nil ?_
          rintro _ ⟨y, rfl⟩
          go_wp2_with fail
          go_ret2
          refine ⟨rfl, Cls.of ?_⟩
          repeat first | with_reducible exact Below.refl _ _ | with_reducible refine Below.setCell ?_ (by first | omega | (simp; done) | (simp; omega)) _ | with_reducible refine Below.alloc ?_ (by first | omega | (simp; done) | (simp; omega)) _ | with_reducible refine Below.drew ?_ | with_reducible refine Ext.on _ ?_ (by first | omega | (simp; done) | (simp; omega))
set_option maxHeartbeats 4000000 in
set_option maxRecDepth 20000 in
theorem rTarget_calls : TgtOf 61 := by
  intro sl tb i k w h
  have hle := h.1.1
  have hmax := h.1.2.1
  unfold maxLen at hmax
  have H := Lib.hid h
  clear h
  by_cases h1 : i < 0
  · have e1 : tgtI sl tb i k = 0 := by unfold tgtI; rw [if_pos h1]
    have e2 : tgtB sl tb i k = false := by unfold tgtB; rw [if_pos h1]
    rw [e1, e2]
    have d1 : decide (i < 0) = true := by simpa using h1
    go_enter Tryd.func61, Tryd.ntmps61
    go_wp2_with fail
    go_ret2
    refine ⟨rfl, Cls.of ?_⟩
    repeat first | with_reducible exact Below.refl _ _ | with_reducible refine Below.setCell ?_ (by first | omega | (simp; done) | (simp; omega)) _ | with_reducible refine Below.alloc ?_ (by first | omega | (simp; done) | (simp; omega)) _ | with_reducible refine Below.drew ?_ | with_reducible refine Ext.on _ ?_ (by first | omega | (simp; done) | (simp; omega))
  · have d1 : decide (i < 0) = false := by simpa using h1
    by_cases h2 : (sl.len : Int) ≤ i
    · have e1 : tgtI sl tb i k = 0 := by unfold tgtI; rw [if_neg h1, if_pos h2]
      have e2 : tgtB sl tb i k = false := by unfold tgtB; rw [if_neg h1, if_pos h2]
      rw [e1, e2]
      have d2 : decide ((sl.len : Int) ≤ i) = true := by simpa using h2
      go_enter Tryd.func61, Tryd.ntmps61
      go_wp2_with fail
      go_ret2
      refine ⟨rfl, Cls.of ?_⟩
      repeat first | with_reducible exact Below.refl _ _ | with_reducible refine Below.setCell ?_ (by first | omega | (simp; done) | (simp; omega)) _ | with_reducible refine Below.alloc ?_ (by first | omega | (simp; done) | (simp; omega)) _ | with_reducible refine Below.drew ?_ | with_reducible refine Ext.on _ ?_ (by first | omega | (simp; done) | (simp; omega))
    · obtain ⟨n, rfl⟩ : ∃ n : Nat, i = (n : Int) := ⟨i.toNat, by omega⟩
      have hn : n < sl.len := by omega
      have d2 : decide ((sl.len : Int) ≤ (n : Int)) = false := by simpa using h2
      obtain ⟨b, off, ha, hb2, hc⟩ := H.out.1.2.2.2 n hn
      have q4 := hc 4 (by omega)
      simp only [Tb.cells, Sl.v, List.getElem?_cons_zero, List.getElem?_cons_succ] at q4
      have hb1 : b < w.heap.size + 1 := by omega
      obtain ⟨sa, sn, sc⟩ := sl
      simp only at ha hn hle hmax q4 d2 h2
      subst ha
      have HT := Lib.hid (H.out.2 n hn)
      have hfl := HT.out.fks.1
      have hfm := HT.out.fks.2.1
      unfold maxLen at hfm
      clear hc
      by_cases h3 : k < 0
      · have e1 : tgtI ⟨some ⟨b, off, none⟩, sn, sc⟩ tb n k = 0 := by unfold tgtI; rw [if_neg h1, if_neg h2, if_pos h3]
        have e2 : tgtB ⟨some ⟨b, off, none⟩, sn, sc⟩ tb n k = false := by unfold tgtB; rw [if_neg h1, if_neg h2, if_pos h3]
        rw [e1, e2]
        have d3 : decide (k < 0) = true := by simpa using h3
        go_enter Tryd.func61, Tryd.ntmps61
        go_wp2_with fail
        go_ret2
        refine ⟨rfl, Cls.of ?_⟩
        repeat first | with_reducible exact Below.refl _ _ | with_reducible refine Below.setCell ?_ (by first | omega | (simp; done) | (simp; omega)) _ | with_reducible refine Below.alloc ?_ (by first | omega | (simp; done) | (simp; omega)) _ | with_reducible refine Below.drew ?_ | with_reducible refine Ext.on _ ?_ (by first | omega | (simp; done) | (simp; omega))
      · have d3 : decide (k < 0) = false := by simpa using h3
        by_cases h4 : ((tb n).fs.len : Int) ≤ k
        · have e1 : tgtI ⟨some ⟨b, off, none⟩, sn, sc⟩ tb n k = 0 := by unfold tgtI; rw [if_neg h1, if_neg h2, if_neg h3]; exact if_pos h4
          have e2 : tgtB ⟨some ⟨b, off, none⟩, sn, sc⟩ tb n k = false := by unfold tgtB; rw [if_neg h1, if_neg h2, if_neg h3]; exact if_pos h4
          rw [e1, e2]
          have d4 : decide (((tb n).fs.len : Int) ≤ k) = true := by simpa using h4
          go_enter Tryd.func61, Tryd.ntmps61
          go_wp2_with fail
          go_ret2
          refine ⟨rfl, Cls.of ?_⟩
          repeat first | with_reducible exact Below.refl _ _ | with_reducible refine Below.setCell ?_ (by first | omega | (simp; done) | (simp; omega)) _ | with_reducible refine Below.alloc ?_ (by first | omega | (simp; done) | (simp; omega)) _ | with_reducible refine Below.drew ?_ | with_reducible refine Ext.on _ ?_ (by first | omega | (simp; done) | (simp; omega))
        · obtain ⟨m, rfl⟩ : ∃ m : Nat, k = (m : Int) := ⟨k.toNat, by omega⟩
          have hm : m < (tb n).fs.len := by omega
          have d4 : decide (((tb n).fs.len : Int) ≤ (m : Int)) = false := by simpa using h4
          obtain ⟨b', off', ha', hb2', hc'⟩ := HT.out.fks.2.2.2 m hm
          have r1 := hc' 1 (by omega)
          simp only [List.getElem?_cons_zero, List.getElem?_cons_succ] at r1
          have hb1' : b' < w.heap.size + 1 := by omega
          have e1 : tgtI ⟨some ⟨b, off, none⟩, sn, sc⟩ tb n m = at0 (idx (nameP tb ((tb n).fkt m)) 0 sn) := by unfold tgtI; rw [if_neg h1, if_neg h2, if_neg h3]; exact if_neg h4
          have e2 : tgtB ⟨some ⟨b, off, none⟩, sn, sc⟩ tb n m = decide (0 ≤ idx (nameP tb ((tb n).fkt m)) 0 sn) := by unfold tgtB; rw [if_neg h1, if_neg h2, if_neg h3]; exact if_neg h4
          rw [e1, e2]
          have C1 : Hid (∀ W, Below w.heap.size w W → Calls Tryd.prog 59 #[.agg #[.slice (some ⟨b, off, none⟩) sn sc], .string ((tb n).fkt m)] W fun r w' => r = .returned (.tuple #[.int .i64 (at0 (idx (nameP tb ((tb n).fkt m)) 0 sn)), .bool (decide (0 ≤ idx (nameP tb ((tb n).fkt m)) 0 sn))]) ∧ Cls W w') := Lib.hid (fun W hW => rFind_calls ⟨some ⟨b, off, none⟩, sn, sc⟩ tb ((tb n).fkt m) W (H.out.later hW))
          clear e1 e2 hc'
          generalize hfs : (tb n).fs = fs at *
          obtain ⟨fa, fn, fc⟩ := fs
          simp only at ha' hm d4 hfl hfm q4
          subst ha'
          generalize (tb n).fkt m = s at *
          generalize idx (nameP tb s) 0 sn = r0 at C1 ⊢
          go_enter Tryd.func61, Tryd.ntmps61
          go_wp2_with fail
          refine wp_region_ext (by kernel_rfl) (by kernel_rfl) ?_
          repeat (go_big_quiet_step ((go_at_call 59; exact Cls.call (C1.out _ (by repeat first | with_reducible exact Below.refl _ _ | with_reducible refine Below.setCell ?_ (by first | omega | (simp; done) | (simp; omega)) _ | with_reducible refine Below.alloc ?_ (by first | omega | (simp; done) | (simp; omega)) _ | with_reducible refine Below.drew ?_ | with_reducible refine Ext.on _ ?_ (by first | omega | (simp; done) | (simp; omega)))))))
          refine wpQuiet_nil ?_
          rintro _ ⟨y, rfl⟩
          go_wp2_with fail
          go_ret2
          refine ⟨rfl, Cls.of ?_⟩
          repeat first | with_reducible exact Below.refl _ _ | with_reducible refine Below.setCell ?_ (by first | omega | (simp; done) | (simp; omega)) _ | with_reducible refine Below.alloc ?_ (by first | omega | (simp; done) | (simp; omega)) _ | with_reducible refine Below.drew ?_ | with_reducible refine Ext.on _ ?_ (by first | omega | (simp; done) | (simp; omega))
end Go.Proofs.YtpddkljedhghkaaDoor
