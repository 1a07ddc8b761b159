/-
  The table that a foreign key names.
-/
import Derived.Test.YtdmhmlnfoocnjaaGreatDoorK09
set_option linter.unusedVariables false
namespace Go.Proofs.YtdmhmlnfoocnjaaGreatDoor
open Go Go.RowKit Go.Deep
def tgtI (sl : Sl) (tb : Nat → Tb) (i k : Int) : Int := if i < 0 then 0 else if (sl.len : Int) ≤ i then 0 else if k < 0 then 0 else if ((tb i.toNat).fs.len : Int) ≤ k then 0 else at0 (idx (nameP tb ((tb i.toNat).fkt k.toNat)) 0 sl.len)
def tgtB (sl : Sl) (tb : Nat → Tb) (i k : Int) : Bool := if i < 0 then false else if (sl.len : Int) ≤ i then false else if k < 0 then false else if ((tb i.toNat).fs.len : Int) ≤ k then false else decide (0 ≤ idx (nameP tb ((tb i.toNat).fkt k.toNat)) 0 sl.len)
def TgtOf (f : FuncId) : Prop := ∀ (sl : Sl) (tb : Nat → Tb) (i k : Int) (w : World), TabsAt w sl tb →
    Calls Tryz.prog f #[.agg #[.slice sl.a sl.len sl.cap], .int .i64 i, .int .i64 k] w fun r w' => r = .returned (.tuple #[.int .i64 (tgtI sl tb i k), .bool (tgtB sl tb i k)]) ∧ Cls w w'
set_option maxHeartbeats 4000000 in
set_option maxRecDepth 20000 in
theorem Target_calls : TgtOf 77 := by
  intro sl tb i k w h
  have hle := h.1.1
  have hmax := h.1.2.1
  unfold maxLen at hmax
  have H := Lib.hid h
  clear h
  by_cases h1 : i < 0
  · have e1 : tgtI sl tb i k = 0 := by unfold tgtI; rw [if_pos h1]
    have e2 : tgtB sl tb i k = false := by unfold tgtB; rw [if_pos h1]
    rw [e1, e2]
    have d1 : decide (i < 0) = true := by simpa using h1
    go_enter Tryz.func77, Tryz.ntmps77
    go_wp2_with fail
    go_ret2
    refine ⟨rfl, Cls.of ?_⟩
    repeat first|with_reducible exact Below.refl _ _|with_reducible refine Below.setCell ?_ (by first|omega|(simp;done)|(simp;omega)) _|with_reducible refine Below.alloc ?_ (by first|omega|(simp;done)|(simp;omega)) _|with_reducible refine Below.drew ?_|with_reducible refine Ext.on _ ?_ (by first|omega|(simp;done)|(simp;omega))
  · have d1 : decide (i < 0) = false := by simpa using h1
    by_cases h2 : (sl.len : Int) ≤ i
    · have e1 : tgtI sl tb i k = 0 := by unfold tgtI; rw [if_neg h1, if_pos h2]
      have e2 : tgtB sl tb i k = false := by unfold tgtB; rw [if_neg h1, if_pos h2]
      rw [e1, e2]
      have d2 : decide ((sl.len : Int) ≤ i) = true := by simpa using h2
      go_enter Tryz.func77, Tryz.ntmps77
      go_wp2_with fail
      go_ret2
      refine ⟨rfl, Cls.of ?_⟩
      repeat first|with_reducible exact Below.refl _ _|with_reducible refine Below.setCell ?_ (by first|omega|(simp;done)|(simp;omega)) _|with_reducible refine Below.alloc ?_ (by first|omega|(simp;done)|(simp;omega)) _|with_reducible refine Below.drew ?_|with_reducible refine Ext.on _ ?_ (by first|omega|(simp;done)|(simp;omega))
    · obtain ⟨n, rfl⟩ : ∃ n : Nat, i = (n : Int) := ⟨i.toNat, by omega⟩
      have hn : n < sl.len := by omega
      have d2 : decide ((sl.len : Int) ≤ (n : Int)) = false := by simpa using h2
      obtain ⟨b, off, ha, hb2, hc⟩ := H.out.1.2.2.2 n hn
      have q4 := hc 4 (by omega)
      simp only [Tb.cells, Sl.v, List.getElem?_cons_zero, List.getElem?_cons_succ] at q4
      have hb1 : b < w.heap.size + 1 := by omega
      obtain ⟨sa, sn, sc⟩ := sl
      simp only at ha hn hle hmax q4 d2 h2
      subst ha
      have HT := Lib.hid (H.out.2 n hn)
      have hfl := HT.out.fks.1
      have hfm := HT.out.fks.2.1
      unfold maxLen at hfm
      clear hc
      by_cases h3 : k < 0
      · have e1 : tgtI ⟨some ⟨b, off, none⟩, sn, sc⟩ tb n k = 0 := by unfold tgtI; rw [if_neg h1, if_neg h2, if_pos h3]
        have e2 : tgtB ⟨some ⟨b, off, none⟩, sn, sc⟩ tb n k = false := by unfold tgtB; rw [if_neg h1, if_neg h2, if_pos h3]
        rw [e1, e2]
        have d3 : decide (k < 0) = true := by simpa using h3
        go_enter Tryz.func77, Tryz.ntmps77
        go_wp2_with fail
        go_ret2
        refine ⟨rfl, Cls.of ?_⟩
        repeat first|with_reducible exact Below.refl _ _|with_reducible refine Below.setCell ?_ (by first|omega|(simp;done)|(simp;omega)) _|with_reducible refine Below.alloc ?_ (by first|omega|(simp;done)|(simp;omega)) _|with_reducible refine Below.drew ?_|with_reducible refine Ext.on _ ?_ (by first|omega|(simp;done)|(simp;omega))
      · have d3 : decide (k < 0) = false := by simpa using h3
        by_cases h4 : ((tb n).fs.len : Int) ≤ k
        · have e1 : tgtI ⟨some ⟨b, off, none⟩, sn, sc⟩ tb n k = 0 := by unfold tgtI; rw [if_neg h1, if_neg h2, if_neg h3]; exact if_pos h4
          have e2 : tgtB ⟨some ⟨b, off, none⟩, sn, sc⟩ tb n k = false := by unfold tgtB; rw [if_neg h1, if_neg h2, if_neg h3]; exact if_pos h4
          rw [e1, e2]
          have d4 : decide (((tb n).fs.len : Int) ≤ k) = true := by simpa using h4
          go_enter Tryz.func77, Tryz.ntmps77
          go_wp2_with fail
          go_ret2
          refine ⟨rfl, Cls.of ?_⟩
          repeat first|with_reducible exact Below.refl _ _|with_reducible refine Below.setCell ?_ (by first|omega|(simp;done)|(simp;omega)) _|with_reducible refine Below.alloc ?_ (by first|omega|(simp;done)|(simp;omega)) _|with_reducible refine Below.drew ?_|with_reducible refine Ext.on _ ?_ (by first|omega|(simp;done)|(simp;omega))
        · obtain ⟨m, rfl⟩ : ∃ m : Nat, k = (m : Int) := ⟨k.toNat, by omega⟩
          have hm : m < (tb n).fs.len := by omega
          have d4 : decide (((tb n).fs.len : Int) ≤ (m : Int)) = false := by simpa using h4
          obtain ⟨b', off', ha', hb2', hc'⟩ := HT.out.fks.2.2.2 m hm
          have r1 := hc' 1 (by omega)
          simp only [List.getElem?_cons_zero, List.getElem?_cons_succ] at r1
          have hb1' : b' < w.heap.size + 1 := by omega
          have e1 : tgtI ⟨some ⟨b, off, none⟩, sn, sc⟩ tb n m = at0 (idx (nameP tb ((tb n).fkt m)) 0 sn) := by unfold tgtI; rw [if_neg h1, if_neg h2, if_neg h3]; exact if_neg h4
          have e2 : tgtB ⟨some ⟨b, off, none⟩, sn, sc⟩ tb n m = decide (0 ≤ idx (nameP tb ((tb n).fkt m)) 0 sn) := by unfold tgtB; rw [if_neg h1, if_neg h2, if_neg h3]; exact if_neg h4
          rw [e1, e2]
          have C1 : Hid (∀ W, Below w.heap.size w W → Calls Tryz.prog 44 #[.agg #[.slice (some ⟨b, off, none⟩) sn sc], .string ((tb n).fkt m)] W fun r w' => r = .returned (.tuple #[.int .i64 (at0 (idx (nameP tb ((tb n).fkt m)) 0 sn)), .bool (decide (0 ≤ idx (nameP tb ((tb n).fkt m)) 0 sn))]) ∧ Cls W w') := Lib.hid (fun W hW => Find_calls ⟨some ⟨b, off, none⟩, sn, sc⟩ tb ((tb n).fkt m) W (H.out.later hW))
          clear e1 e2 hc'
          generalize hfs : (tb n).fs = fs at *
          obtain ⟨fa, fn, fc⟩ := fs
          simp only at ha' hm d4 hfl hfm q4
          subst ha'
          generalize (tb n).fkt m = s at *
          generalize idx (nameP tb s) 0 sn = r0 at C1 ⊢
          go_enter Tryz.func77, Tryz.ntmps77
          go_wp2_with fail
          refine wp_region_ext (by kernel_rfl) (by kernel_rfl) ?_
          repeat (go_big_quiet_step ((go_at_call 44; exact Cls.call (C1.out _ (by repeat first|with_reducible exact Below.refl _ _|with_reducible refine Below.setCell ?_ (by first|omega|(simp;done)|(simp;omega)) _|with_reducible refine Below.alloc ?_ (by first|omega|(simp;done)|(simp;omega)) _|with_reducible refine Below.drew ?_|with_reducible refine Ext.on _ ?_ (by first|omega|(simp;done)|(simp;omega)))))))
          refine wpQuiet_nil ?_
          rintro _ ⟨y, rfl⟩
          go_wp2_with fail
          go_ret2
          refine ⟨rfl, Cls.of ?_⟩
          repeat first|with_reducible exact Below.refl _ _|with_reducible refine Below.setCell ?_ (by first|omega|(simp;done)|(simp;omega)) _|with_reducible refine Below.alloc ?_ (by first|omega|(simp;done)|(simp;omega)) _|with_reducible refine Below.drew ?_|with_reducible refine Ext.on _ ?_ (by first|omega|(simp;done)|(simp;omega))
set_option maxHeartbeats 4000000 in
set_option maxRecDepth 20000 in
theorem rTarget_calls : TgtOf 37 := by
  intro sl tb i k w h
  have hle := h.1.1
  have hmax := h.1.2.1
  unfold maxLen at hmax
  have H := Lib.hid h
  clear h
  by_cases h1 : i < 0
  · have e1 : tgtI sl tb i k = 0 := by unfold tgtI; rw [if_pos h1]
    have e2 : tgtB sl tb i k = false := by unfold tgtB; rw [if_pos h1]
    rw [e1, e2]
    have d1 : decide (i < 0) = true := by simpa using h1
    go_enter Tryz.func37, Tryz.ntmps37
    go_wp2_with fail
    go_ret2
    refine ⟨rfl, Cls.of ?_⟩
    repeat first|with_reducible exact Below.refl _ _|with_reducible refine Below.setCell ?_ (by first|omega|(simp;done)|(simp;omega)) _|with_reducible refine Below.alloc ?_ (by first|omega|(simp;done)|(simp;omega)) _|with_reducible refine Below.drew ?_|with_reducible refine Ext.on _ ?_ (by first|omega|(simp;done)|(simp;omega))
  · have d1 : decide (i < 0) = false := by simpa using h1
    by_cases h2 : (sl.len : Int) ≤ i
    · have e1 : tgtI sl tb i k = 0 := by unfold tgtI; rw [if_neg h1, if_pos h2]
      have e2 : tgtB sl tb i k = false := by unfold tgtB; rw [if_neg h1, if_pos h2]
      rw [e1, e2]
      have d2 : decide ((sl.len : Int) ≤ i) = true := by simpa using h2
      go_enter Tryz.func37, Tryz.ntmps37
      go_wp2_with fail
      go_ret2
      refine ⟨rfl, Cls.of ?_⟩
      repeat first|with_reducible exact Below.refl _ _|with_reducible refine Below.setCell ?_ (by first|omega|(simp;done)|(simp;omega)) _|with_reducible refine Below.alloc ?_ (by first|omega|(simp;done)|(simp;omega)) _|with_reducible refine Below.drew ?_|with_reducible refine Ext.on _ ?_ (by first|omega|(simp;done)|(simp;omega))
    · obtain ⟨n, rfl⟩ : ∃ n : Nat, i = (n : Int) := ⟨i.toNat, by omega⟩
      have hn : n < sl.len := by omega
      have d2 : decide ((sl.len : Int) ≤ (n : Int)) = false := by simpa using h2
      obtain ⟨b, off, ha, hb2, hc⟩ := H.out.1.2.2.2 n hn
      have q4 := hc 4 (by omega)
      simp only [Tb.cells, Sl.v, List.getElem?_cons_zero, List.getElem?_cons_succ] at q4
      have hb1 : b < w.heap.size + 1 := by omega
      obtain ⟨sa, sn, sc⟩ := sl
      simp only at ha hn hle hmax q4 d2 h2
      subst ha
      have HT := Lib.hid (H.out.2 n hn)
      have hfl := HT.out.fks.1
      have hfm := HT.out.fks.2.1
      unfold maxLen at hfm
      clear hc
      by_cases h3 : k < 0
      · have e1 : tgtI ⟨some ⟨b, off, none⟩, sn, sc⟩ tb n k = 0 := by unfold tgtI; rw [if_neg h1, if_neg h2, if_pos h3]
        have e2 : tgtB ⟨some ⟨b, off, none⟩, sn, sc⟩ tb n k = false := by unfold tgtB; rw [if_neg h1, if_neg h2, if_pos h3]
        rw [e1, e2]
        have d3 : decide (k < 0) = true := by simpa using h3
        go_enter Tryz.func37, Tryz.ntmps37
        go_wp2_with fail
        go_ret2
        refine ⟨rfl, Cls.of ?_⟩
        repeat first|with_reducible exact Below.refl _ _|with_reducible refine Below.setCell ?_ (by first|omega|(simp;done)|(simp;omega)) _|with_reducible refine Below.alloc ?_ (by first|omega|(simp;done)|(simp;omega)) _|with_reducible refine Below.drew ?_|with_reducible refine Ext.on _ ?_ (by first|omega|(simp;done)|(simp;omega))
      · have d3 : decide (k < 0) = false := by simpa using h3
        by_cases h4 : ((tb n).fs.len : Int) ≤ k
        · have e1 : tgtI ⟨some ⟨b, off, none⟩, sn, sc⟩ tb n k = 0 := by unfold tgtI; rw [if_neg h1, if_neg h2, if_neg h3]; exact if_pos h4
          have e2 : tgtB ⟨some ⟨b, off, none⟩, sn, sc⟩ tb n k = false := by unfold tgtB; rw [if_neg h1, if_neg h2, if_neg h3]; exact if_pos h4
          rw [e1, e2]
          have d4 : decide (((tb n).fs.len : Int) ≤ k) = true := by simpa using h4
          go_enter Tryz.func37, Tryz.ntmps37
          go_wp2_with fail
          go_ret2
          refine ⟨rfl, Cls.of ?_⟩
          repeat first|with_reducible exact Below.refl _ _|with_reducible refine Below.setCell ?_ (by first|omega|(simp;done)|(simp;omega)) _|with_reducible refine Below.alloc ?_ (by first|omega|(simp;done)|(simp;omega)) _|with_reducible refine Below.drew ?_|with_reducible refine Ext.on _ ?_ (by first|omega|(simp;done)|(simp;omega))
        · obtain ⟨m, rfl⟩ : ∃ m : Nat, k = (m : Int) := ⟨k.toNat, by omega⟩
          have hm : m < (tb n).fs.len := by omega
          have d4 : decide (((tb n).fs.len : Int) ≤ (m : Int)) = false := by simpa using h4
          obtain ⟨b', off', ha', hb2', hc'⟩ := HT.out.fks.2.2.2 m hm
          have r1 := hc' 1 (by omega)
          simp only [List.getElem?_cons_zero, List.getElem?_cons_succ] at r1
          have hb1' : b' < w.heap.size + 1 := by omega
          have e1 : tgtI ⟨some ⟨b, off, none⟩, sn, sc⟩ tb n m = at0 (idx (nameP tb ((tb n).fkt m)) 0 sn) := by unfold tgtI; rw [if_neg h1, if_neg h2, if_neg h3]; exact if_neg h4
          have e2 : tgtB ⟨some ⟨b, off, none⟩, sn, sc⟩ tb n m = decide (0 ≤ idx (nameP tb ((tb n).fkt m)) 0 sn) := by unfold tgtB; rw [if_neg h1, if_neg h2, if_neg h3]; exact if_neg h4
          rw [e1, e2]
          have C1 : Hid (∀ W, Below w.heap.size w W → Calls Tryz.prog 35 #[.agg #[.slice (some ⟨b, off, none⟩) sn sc], .string ((tb n).fkt m)] W fun r w' => r = .returned (.tuple #[.int .i64 (at0 (idx (nameP tb ((tb n).fkt m)) 0 sn)), .bool (decide (0 ≤ idx (nameP tb ((tb n).fkt m)) 0 sn))]) ∧ Cls W w') := Lib.hid (fun W hW => rFind_calls ⟨some ⟨b, off, none⟩, sn, sc⟩ tb ((tb n).fkt m) W (H.out.later hW))
          clear e1 e2 hc'
          generalize hfs : (tb n).fs = fs at *
          obtain ⟨fa, fn, fc⟩ := fs
          simp only at ha' hm d4 hfl hfm q4
          subst ha'
          generalize (tb n).fkt m = s at *
          generalize idx (nameP tb s) 0 sn = r0 at C1 ⊢
          go_enter Tryz.func37, Tryz.ntmps37
          go_wp2_with fail
          refine wp_region_ext (by kernel_rfl) (by kernel_rfl) ?_
          repeat (go_big_quiet_step ((go_at_call 35; exact Cls.call (C1.out _ (by repeat first|with_reducible exact Below.refl _ _|with_reducible refine Below.setCell ?_ (by first|omega|(simp;done)|(simp;omega)) _|with_reducible refine Below.alloc ?_ (by first|omega|(simp;done)|(simp;omega)) _|with_reducible refine Below.drew ?_|with_reducible refine Ext.on _ ?_ (by first|omega|(simp;done)|(simp;omega)))))))
          refine wpQuiet_nil ?_
          rintro _ ⟨y, rfl⟩
          go_wp2_with fail
          go_ret2
          refine ⟨rfl, Cls.of ?_⟩
          repeat first|with_reducible exact Below.refl _ _|with_reducible refine Below.setCell ?_ (by first|omega|(simp;done)|(simp;omega)) _|with_reducible refine Below.alloc ?_ (by first|omega|(simp;done)|(simp;omega)) _|with_reducible refine Below.drew ?_|with_reducible refine Ext.on _ ?_ (by first|omega|(simp;done)|(simp;omega))
end Go.Proofs.YtdmhmlnfoocnjaaGreatDoor
