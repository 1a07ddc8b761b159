/-
  Which table can come next: the program's ready and what it calls.
-/
import Derived.Test.YtilnnpeknkjjmaaOMap
import Derived.Test.YtilnnpeknkjjmaaOMath
set_option linter.unusedVariables false
namespace Go.Proofs.Ytilnnpeknkjjmaa
open Go Go.RowKit Go.Deep
set_option maxHeartbeats 4000000 in
set_option maxRecDepth 20000 in
theorem waits_calls (j b B c m : Nat) (f : Nat → Option Value) (w : World) (hm : MapIs w B c m f) (hb : w.cell? ⟨b, 0, none⟩ = some (.map (some B))) (hj : j < 1000) :
    Calls Try.prog 15 #[.int .i64 (j : Nat), .pointer (some ⟨b, 0, none⟩)] w fun r w' => r = .returned (.bool (f j).isSome) ∧ Cls w w' := by
  have hl := hm.look_ok hj
  go_enter Try.func15, Try.ntmps15
  go_wp2_with fail
  go_ret
  refine ⟨ret_bool rfl, Cls.of ?_⟩
  repeat first | with_reducible exact Below.refl _ _ | with_reducible refine Below.setCell ?_ (by first | omega | (simp; done) | (simp; omega)) _ | with_reducible refine Below.alloc ?_ (by first | omega | (simp; done) | (simp; omega)) _ | with_reducible refine Below.drew ?_ | with_reducible refine Ext.on _ ?_ (by first | omega | (simp; done) | (simp; omega))
set_option maxHeartbeats 4000000 in
set_option maxRecDepth 20000 in
theorem indexW_calls (s : Sl) (tl : Nat → Nat) (bx B c m : Nat) (f : Nat → Option Value) (w : World) (hm : MapIs w B c m f) (hb : w.cell? ⟨bx, 0, none⟩ = some (.map (some B))) (hlt : bx < w.heap.size) (hs : SlAt w 1 s (intC fun i => ((tl i : Nat) : Int))) (ht : ∀ i, i < s.len → tl i < 1000) :
    Calls Try.prog 19 #[.slice s.a s.len s.cap, .func (.func 15) #[] #[.pointer (some ⟨bx, 0, none⟩)]] w fun r w' => r = .returned (.int .i64 (idx (fun i => (f (tl i)).isSome) 0 s.len)) ∧ Cls w w' := by
  have hle := hs.1
  have hmax := hs.2.1
  unfold maxLen at hmax
  have H := Lib.hid hs.2.2.2
  have HT := Lib.hid ht
  have HM := Lib.hid hm
  clear hs ht hm
  obtain ⟨sa, sn, sc⟩ := s
  simp only at hle hmax H HT
  go_enter Try.func19, Try.ntmps19
  go_wp2_with fail
  go_loopw [8] (fun i wr => ∃ j : Nat, j ≤ sn ∧ i = .int .i64 j ∧ idx (fun i => (f (tl i)).isSome) 0 sn = idx (fun i => (f (tl i)).isSome) j (sn - j) ∧ Cls w wr) (fun i _ => sn - (intOf i).toNat)
  case atStart => exact ⟨0, Nat.zero_le _, rfl, rfl, Cls.of (Below.refl _ _)⟩
  case round =>
    obtain ⟨j, hj, rfl, he, x, rfl⟩ := hrel
    have HE := Lib.hid he
    clear he
    have xs := x.size
    by_cases hltj : j < sn
    · obtain ⟨b, off, ha, hb2, hc⟩ := H.out j hltj
      subst ha
      have q0 := hc 0 (by omega)
      simp only [intC, List.getElem?_cons_zero, Nat.add_zero, Nat.mul_one] at q0
      have hS : Hid (sn - j = (sn - (j + 1)) + 1) := Lib.hid (by omega)
      have C1 : Hid (∀ W, Below w.heap.size w W → Calls Try.prog 15 #[.int .i64 (tl j : Nat), .pointer (some ⟨bx, 0, none⟩)] W fun r w' => r = .returned (.bool (f (tl j)).isSome) ∧ Cls W w') := Lib.hid (fun W hW => waits_calls (tl j) bx B c m f W (HM.out.later hW) (by rw [hW.cell (p := ⟨bx, 0, none⟩) hlt]; exact hb) (HT.out j hltj))
      clear hc
      cases hbb : (f (tl j)).isSome
      all_goals
        have HB := Lib.hid hbb
        rw [hbb] at C1
        clear hbb
        generalize tl j = tj at q0 C1
        go_wp2_with (go_at_call 15; ((with_reducible refine (Cls.call (C1.out _ x.below)).mono ?_); rintro r _ ⟨rfl, y, rfl⟩))
      · go_roundw
        case rel => exact ⟨j + 1, by omega, by go_num, by rw [HE.out, hS.out, idx_go HB.out], y, rfl⟩
        case measure => simp [intOf]; omega
      · go_ret
        exact ⟨ret_int (by rw [HE.out, hS.out, idx_stop HB.out]), y, rfl⟩
    · have hz : Hid (sn - j = 0) := Lib.hid (by omega)
      go_wp2_with fail
      go_ret
      exact ⟨ret_int (by rw [HE.out, hz.out]; rfl), x, rfl⟩
set_option maxHeartbeats 4000000 in
set_option maxRecDepth 20000 in
theorem containsW_calls (s : Sl) (tl : Nat → Nat) (bx B c m : Nat) (f : Nat → Option Value) (w : World) (hm : MapIs w B c m f) (hb : w.cell? ⟨bx, 0, none⟩ = some (.map (some B))) (hlt : bx < w.heap.size) (hs : SlAt w 1 s (intC fun i => ((tl i : Nat) : Int))) (ht : ∀ i, i < s.len → tl i < 1000) :
    Calls Try.prog 16 #[.slice s.a s.len s.cap, .func (.func 15) #[] #[.pointer (some ⟨bx, 0, none⟩)]] w fun r w' => r = .returned (.bool (decide (0 ≤ idx (fun i => (f (tl i)).isSome) 0 s.len))) ∧ Cls w w' := by
  have C1 := Lib.hid (indexW_calls s tl bx B c m f w hm hb hlt hs ht)
  clear hm hs ht
  generalize idx (fun i => (f (tl i)).isSome) 0 s.len = n at C1 ⊢
  go_enter Try.func16, Try.ntmps16
  go_wp2_with (go_at_call 19; ((with_reducible refine C1.out.mono ?_); rintro r _ ⟨rfl, y, rfl⟩))
  go_ret
  exact ⟨ret_bool (by simp), y, rfl⟩
end Go.Proofs.Ytilnnpeknkjjmaa
