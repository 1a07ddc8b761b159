/-
  The first table that can come next: the program's ready.
-/
import Derived.Test.YtilnnpeknkjjmaaOReady
set_option linter.unusedVariables false
namespace Go.Proofs.Ytilnnpeknkjjmaa
open Go Go.RowKit Go.Deep
/-- Table i waits, but for none that waits. -/
def goodF (sl : Sl) (tb : Nat → Tb) (f : Nat → Option Value) (i : Nat) : Bool := (f i).isSome && !decide (0 ≤ idx (fun k => (f (tgN sl tb i k)).isSome) 0 (tb i).fs.len)
/-- The targets of each table that waits. -/
def RowsAt (sl : Sl) (tb : Nat → Tb) (f : Nat → Option Value) (s : Nat → Sl) (w : World) : Prop := ∀ j, j < sl.len → f j = none ∨ (f j = some (s j).v ∧ (s j).len = (tb j).fs.len ∧ SlAt w 1 (s j) (intC fun i => ((tgN sl tb j i : Nat) : Int)))
theorem RowsAt.later {sl : Sl} {tb : Nat → Tb} {f : Nat → Option Value} {s : Nat → Sl} {w w' : World} (h : RowsAt sl tb f s w) (hb : Below w.heap.size w w') : RowsAt sl tb f s w' := fun j hj => (h j hj).imp id fun ⟨h1, h2, h3⟩ => ⟨h1, h2, h3.later hb⟩
set_option maxHeartbeats 8000000 in
set_option maxRecDepth 20000 in
theorem ready_calls (sl : Sl) (tb : Nat → Tb) (s : Nat → Sl) (B c m : Nat) (f : Nat → Option Value) (w : World) (hm : MapIs w B c m f) (hr : RowsAt sl tb f s w) (hall : allT sl tb) (hn : sl.len ≤ 10) :
    Calls Try.prog 10 #[.int .i64 (sl.len : Nat), .map (some B)] w fun r w' => r = .returned (.tuple #[.int .i64 (at0 (idx (goodF sl tb f) 0 sl.len)), .bool (decide (0 ≤ idx (goodF sl tb f) 0 sl.len))]) ∧ Cls w w' := by
  have HM := Lib.hid hm
  have HR := Lib.hid hr
  have HA := Lib.hid hall
  have HL : Hid (∀ i k, i < sl.len → k < (tb i).fs.len → tgN sl tb i k < 1000) := Lib.hid (fun i k hi hk => by have := tg_lt (hall i hi k hk); omega)
  clear hm hr hall
  generalize hsn : sl.len = sn at hn
  go_enter Try.func10, Try.ntmps10
  go_wp2_with fail
  go_loopw [10] (fun i wr => ∃ j : Nat, j ≤ sn ∧ i = .int .i64 (j : Nat) ∧ idx (goodF sl tb f) 0 sn = idx (goodF sl tb f) j (sn - j) ∧ Cls (w.alloc (.cells #[.map (some B)] 42)) wr) (fun i _ => sn - (intOf i).toNat)
  case atStart => exact ⟨0, Nat.zero_le _, rfl, rfl, Cls.of (Below.refl _ _)⟩
  case round =>
    obtain ⟨j, hj, rfl, he, x, rfl⟩ := hrel
    have HE := Lib.hid he
    clear he
    have xs := x.size
    have xs2 : w.heap.size + 1 ≤ x.val.heap.size := by simpa using xs
    by_cases hltj : j < sn
    · have hS : Hid (sn - j = (sn - (j + 1)) + 1) := Lib.hid (by omega)
      have hG : Hid (goodF sl tb f j = ((f j).isSome && !decide (0 ≤ idx (fun k => (f (tgN sl tb j k)).isSome) 0 (tb j).fs.len))) := Lib.hid rfl
      have hbx : (w.alloc (.cells #[.map (some B)] 42)).cell? ⟨w.heap.size, 0, none⟩ = some (.map (some B)) := by rw [cell_of_row _ _ _ _ _ (0, 0) (heap_alloc_new w _)]; rfl
      have hb0 : Below w.heap.size w (w.alloc (.cells #[.map (some B)] 42)) := (Below.refl _ _).alloc (Nat.le_refl _) _
      have C1 : Hid (∀ W, Below (w.alloc (.cells #[.map (some B)] 42)).heap.size (w.alloc (.cells #[.map (some B)] 42)) W → Calls Try.prog 15 #[.int .i64 (j : Nat), .pointer (some ⟨w.heap.size, 0, none⟩)] W fun r w' => r = .returned (.bool (f j).isSome) ∧ Cls W w') :=
        Lib.hid (fun W hW => waits_calls j w.heap.size B c m f W ((HM.out.later hb0).later hW) (by rw [hW.cell (p := ⟨w.heap.size, 0, none⟩) (by simp)]; exact hbx) (by omega))
      rcases HR.out j (by omega) with hf | ⟨hf, hsl, hsat⟩
      · have hG2 : Hid (goodF sl tb f j = false) := Lib.hid (by rw [hG.out, hf]; rfl)
        rw [hf] at C1
        clear hbx hb0 hG hf
        go_wp2_with (go_at_call 15; ((with_reducible refine (Cls.call (C1.out _ x.below)).mono ?_); rintro r _ ⟨rfl, y, rfl⟩))
        go_roundw
        case rel => exact ⟨j + 1, by omega, by go_num, by rw [HE.out, hS.out, idx_go hG2.out], y, rfl⟩
        case measure => simp [intOf]; omega
      · have hsB : ∀ W, Below (w.alloc (.cells #[.map (some B)] 42)).heap.size (w.alloc (.cells #[.map (some B)] 42)) W → Calls Try.prog 16 #[.slice (s j).a (s j).len (s j).cap, .func (.func 15) #[] #[.pointer (some ⟨w.heap.size, 0, none⟩)]] W fun r w' => r = .returned (.bool (decide (0 ≤ idx (fun k => (f (tgN sl tb j k)).isSome) 0 (tb j).fs.len))) ∧ Cls W w' := fun W hW => by
          have := containsW_calls (s j) (tgN sl tb j) w.heap.size B c m f W ((HM.out.later hb0).later hW) (by rw [hW.cell (p := ⟨w.heap.size, 0, none⟩) (by simp)]; exact hbx) (Nat.lt_of_lt_of_le (by simp) hW.size) ((hsat.later hb0).later hW) (fun i hi => HL.out j i (by omega) (by omega))
          rw [hsl] at this
          rw [hsl]
          exact this
        have C2 := Lib.hid hsB
        have hG2 : Hid (goodF sl tb f j = !decide (0 ≤ idx (fun k => (f (tgN sl tb j k)).isSome) 0 (tb j).fs.len)) := Lib.hid (by rw [hG.out, hf]; rfl)
        have HK : Hid (∀ W, Below w.heap.size w W → (Instr.lookup 42 (.map (some B)) (.int .i64 (j : Nat)) false).run Try.prog W = .ok (.slice (s j).a (s j).len (s j).cap) W) := Lib.hid (fun W hW => by
          have := (HM.out.later hW).look (j := j) (by omega)
          rw [hf] at this
          exact this)
        rw [hf] at C1
        clear hbx hb0 hG hf hsl hsat hsB
        generalize s j = sj at C2 HK
        obtain ⟨ja, jn, jc⟩ := sj
        cases hbb : decide (0 ≤ idx (fun k => (f (tgN sl tb j k)).isSome) 0 (tb j).fs.len)
        all_goals
          rw [hbb] at C2 hG2
          clear hbb
          go_wp2_with (first | (go_at_call 15; ((with_reducible refine (Cls.call (C1.out _ x.below)).mono ?_); rintro r _ ⟨rfl, y, rfl⟩; have hk := HK.out y.val (by repeat first | with_reducible exact Below.refl _ _ | with_reducible refine Below.setCell ?_ (by first | omega | (simp; done) | (simp; omega)) _ | with_reducible refine Below.alloc ?_ (by first | omega | (simp; done) | (simp; omega)) _ | with_reducible refine Below.drew ?_ | with_reducible refine Ext.on _ ?_ (by first | omega | (simp; done) | (simp; omega))))) | (go_at_call 16; ((with_reducible refine (Cls.call (C2.out _ y.below)).mono ?_); rintro r _ ⟨rfl, z, rfl⟩)))
        · go_ret2
          have e : idx (goodF sl tb f) 0 sn = (j : Nat) := by rw [HE.out, hS.out, idx_stop hG2.out]
          have e2 : at0 (j : Nat) = ((j : Nat) : Int) := if_neg (by omega)
          have e3 : decide ((0 : Int) ≤ (j : Nat)) = true := by simp
          rw [e, e2, e3]
          refine ⟨rfl, Cls.of ?_⟩
          repeat first | with_reducible exact Below.refl _ _ | with_reducible refine Below.setCell ?_ (by first | omega | (simp; done) | (simp; omega)) _ | with_reducible refine Below.alloc ?_ (by first | omega | (simp; done) | (simp; omega)) _ | with_reducible refine Below.drew ?_ | with_reducible refine Ext.on _ ?_ (by first | omega | (simp; done) | (simp; omega))
        · go_roundw
          case rel => exact ⟨j + 1, by omega, by go_num, by rw [HE.out, hS.out, idx_go hG2.out], z, rfl⟩
          case measure => simp [intOf]; omega
    · have hz : Hid (sn - j = 0) := Lib.hid (by omega)
      go_wp2_with fail
      go_ret2
      have e : idx (goodF sl tb f) 0 sn = -1 := by rw [HE.out, hz.out]; rfl
      rw [e]
      refine ⟨rfl, Cls.of ?_⟩
      repeat first | with_reducible exact Below.refl _ _ | with_reducible refine Below.setCell ?_ (by first | omega | (simp; done) | (simp; omega)) _ | with_reducible refine Below.alloc ?_ (by first | omega | (simp; done) | (simp; omega)) _ | with_reducible refine Below.drew ?_ | with_reducible refine Ext.on _ ?_ (by first | omega | (simp; done) | (simp; omega))
end Go.Proofs.Ytilnnpeknkjjmaa
