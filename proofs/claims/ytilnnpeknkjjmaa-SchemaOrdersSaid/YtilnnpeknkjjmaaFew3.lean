/-
  Which schemas the laws look at: the bounds of one that is looked at.
-/
import Derived.Test.YtilnnpeknkjjmaaSameL
import Derived.Test.YtilnnpeknkjjmaaFew
set_option linter.unusedVariables false
namespace Go.Proofs.Ytilnnpeknkjjmaa
open Go Go.RowKit Go.Deep
def FewIs (sl : Sl) (tb : Nat → Tb) (w : World) (r : Ending) (w' : World) : Prop := ∃ b : Bool, r = .returned (.bool b) ∧ (b = true → sl.len ≤ 10 ∧ ∀ i, i < sl.len → ((tb i).cs.len ≤ 20 ∧ (tb i).fs.len ≤ 8)) ∧ Cls w w'
set_option maxHeartbeats 4000000 in
set_option maxRecDepth 20000 in
theorem Few3_calls (sl : Sl) (tb : Nat → Tb) (w : World) (h : TabsAt w sl tb) :
    Calls Try.prog 4 #[.agg #[.slice sl.a sl.len sl.cap]] w fun r w' => FewIs sl tb w r w' := by
  have hle := h.1.1
  have hmax := h.1.2.1
  unfold maxLen at hmax
  have H := Lib.hid h
  clear h
  obtain ⟨sa, sn, sc⟩ := sl
  simp only at hle hmax ⊢
  by_cases h10 : 10 < sn
  · have d1 : decide ((10 : Int) < (sn : Int)) = true := by simp; omega
    go_enter Try.func4, Try.ntmps4
    go_wp2_with fail
    go_ret
    refine ⟨false, rfl, (fun h => by cases h), Cls.of ?_⟩
    repeat first | with_reducible exact Below.refl _ _ | with_reducible refine Below.setCell ?_ (by first | omega | (simp; done) | (simp; omega)) _ | with_reducible refine Below.alloc ?_ (by first | omega | (simp; done) | (simp; omega)) _ | with_reducible refine Below.drew ?_ | with_reducible refine Ext.on _ ?_ (by first | omega | (simp; done) | (simp; omega))
  · have d1 : decide ((10 : Int) < (sn : Int)) = false := by simp; omega
    go_enter Try.func4, Try.ntmps4
    go_wp2_with fail
    go_loopw [3] (fun i wr => ∃ j : Nat, j ≤ sn ∧ i = .int .i64 j ∧ (∀ i, i < j → ((tb i).cs.len ≤ 20 ∧ (tb i).fs.len ≤ 8)) ∧ Cls (w.alloc (.cells #[.slice sa sn sc] 24)) wr) (fun i _ => sn - (intOf i).toNat)
    case atStart => exact ⟨0, Nat.zero_le _, rfl, (fun i h => by omega), Cls.of (Below.refl _ _)⟩
    case round =>
      obtain ⟨j, hj, rfl, he, x, rfl⟩ := hrel
      have HE := Lib.hid he
      clear he
      have xs := x.size
      have xs2 : w.heap.size + 1 ≤ x.val.heap.size := by simpa using xs
      by_cases hltj : j < sn
      · obtain ⟨b, off, ha, hb2, hc⟩ := H.out.1.2.2.2 j hltj
        have HT := Lib.hid (H.out.2 j hltj)
        simp only at ha
        subst ha
        have q0 := hc 0 (by omega)
        have q1 := hc 1 (by omega)
        have q2 := hc 2 (by omega)
        have q3 := hc 3 (by omega)
        have q4 := hc 4 (by omega)
        have q5 := hc 5 (by omega)
        have hb1 : b < w.heap.size + 1 := by omega
        simp only [Tb.cells, Sl.v, List.getElem?_cons_zero, List.getElem?_cons_succ, Nat.add_zero] at q0 q1 q2 q3 q4 q5
        clear hc
        have HTJ : Hid (∀ i, i < j + 1 → ((tb j).cs.len ≤ 20 ∧ (tb j).fs.len ≤ 8) → ((tb i).cs.len ≤ 20 ∧ (tb i).fs.len ≤ 8)) := Lib.hid (fun i hi h2 => by
          by_cases e : i = j
          · subst e; exact h2
          · exact HE.out i (by omega))
        generalize tb j = t at q0 q1 q2 q3 q4 q5 HT HTJ
        obtain ⟨tn, ⟨ca, cn, cc⟩, col, ⟨pa, pn, pc⟩, prim, ⟨ua, un, uc⟩, uq, uqn, ⟨fa, fln, fc⟩, fk, fkn, fkt, ⟨ka, kn, kc⟩, checks⟩ := t
        have HK : Hid (Kids w (fun _ => True) ka kn kc checks) := Lib.hid HT.out.kids
        have HF : Hid (SlAt w 2 ⟨fa, fln, fc⟩ fun i => [(fk i).v, .string (fkt i)]) := Lib.hid HT.out.fks
        have HU : Hid (SlAt w 1 ⟨ua, un, uc⟩ fun i => [(uq i).v]) := Lib.hid HT.out.uqs
        have HUQ : Hid (∀ i, i < un → (uq i).len ≤ maxLen) := Lib.hid (fun i hi => Nat.le_trans (HT.out.uqn i hi).1 (HT.out.uqn i hi).2.1)
        have HFQ : Hid (∀ i, i < fln → (fk i).len ≤ maxLen) := Lib.hid (fun i hi => Nat.le_trans (HT.out.fkn i hi).1.1 (HT.out.fkn i hi).1.2.1)
        have hkn : kn ≤ maxLen := Nat.le_trans HT.out.kids.le HT.out.kids.max
        have hfn : fln ≤ maxLen := Nat.le_trans HF.out.1 HF.out.2.1
        have hun : un ≤ maxLen := Nat.le_trans HU.out.1 HU.out.2.1
        unfold maxLen at hkn hfn hun
        simp only at q0 q1 q2 q3 q4 q5 HTJ
        clear HT
        go_wp2_with fail
        all_goals first
          | (go_ret
             refine ⟨false, rfl, (fun h => by cases h), Cls.of ?_⟩
             repeat first | with_reducible exact Below.refl _ _ | with_reducible refine Below.setCell ?_ (by first | omega | (simp; done) | (simp; omega)) _ | with_reducible refine Below.alloc ?_ (by first | omega | (simp; done) | (simp; omega)) _ | with_reducible refine Below.drew ?_ | with_reducible refine Ext.on _ ?_ (by first | omega | (simp; done) | (simp; omega)))
          | skip
        have hcs : cn ≤ 20 ∧ fln ≤ 8 := by
          first | omega | (simp at *; omega)
        have HT2 := Lib.hid (HTJ.out · · hcs)
        clear HTJ
        go_loopw [5] (fun i wr => ∃ m : Nat, m ≤ kn ∧ i = .int .i64 m ∧ Cls (x.val.alloc (.cells #[.string tn, .slice ca cn cc, .slice pa pn pc, .slice ua un uc, .slice fa fln fc, .slice ka kn kc] 36)) wr) (fun i _ => kn - (intOf i).toNat)
        case atStart => exact ⟨0, Nat.zero_le _, rfl, Cls.of (Below.refl _ _)⟩
        case round =>
          obtain ⟨m, hm, rfl, y, rfl⟩ := hrel
          have ys := y.size
          simp at ys
          by_cases hlt : m < kn
          · obtain ⟨a', len', cap', ⟨b2, off2, rfl, hb2', hok, p0, p1, p2, p3, p4, p5⟩, hfine, hk'⟩ := HK.out.at_ (i := m) hlt
            have hb3 : b2 < w.heap.size + 1 := by omega
            have hb4 : b2 < x.val.heap.size + 1 := by omega
            have hb5 : b2 < x.val.heap.size := by omega
            have C1 : Hid (∀ W, Below w.heap.size w W → Calls Try.prog 8 #[.agg #[.int .i64 (checks.getD m Ex.z).op, .int .i64 (checks.getD m Ex.z).ty, .int .i64 (checks.getD m Ex.z).num, .string (checks.getD m Ex.z).text, .int .i64 (checks.getD m Ex.z).col, .slice a' len' cap']] W fun r w' => r = .returned (.bool (bigB (checks.getD m Ex.z))) ∧ Cls W w') := Lib.hid (fun W hW => Few_calls _ a' len' cap' _ W (hk'.later hW) hfine.2.2.2.1)
            clear hk' hfine hok
            generalize bigB (checks.getD m Ex.z) = be at C1
            generalize checks.getD m Ex.z = e at *
            cases be
            · go_wp2_with (go_at_call 8; ((with_reducible refine (C1.out _ ?_).mono ?_); (· (repeat first | with_reducible exact Below.refl _ _ | with_reducible refine Below.setCell ?_ (by first | omega | (simp; done) | (simp; omega)) _ | with_reducible refine Below.alloc ?_ (by first | omega | (simp; done) | (simp; omega)) _ | with_reducible refine Below.drew ?_ | with_reducible refine Ext.on _ ?_ (by first | omega | (simp; done) | (simp; omega)))); rintro r _ ⟨rfl, z, rfl⟩))
              go_ret
              refine ⟨false, rfl, (fun h => by cases h), Cls.of ?_⟩
              repeat first | with_reducible exact Below.refl _ _ | with_reducible refine Below.setCell ?_ (by first | omega | (simp; done) | (simp; omega)) _ | with_reducible refine Below.alloc ?_ (by first | omega | (simp; done) | (simp; omega)) _ | with_reducible refine Below.drew ?_ | with_reducible refine Ext.on _ ?_ (by first | omega | (simp; done) | (simp; omega))
            · go_wp2_with (go_at_call 8; ((with_reducible refine (C1.out _ ?_).mono ?_); (· (repeat first | with_reducible exact Below.refl _ _ | with_reducible refine Below.setCell ?_ (by first | omega | (simp; done) | (simp; omega)) _ | with_reducible refine Below.alloc ?_ (by first | omega | (simp; done) | (simp; omega)) _ | with_reducible refine Below.drew ?_ | with_reducible refine Ext.on _ ?_ (by first | omega | (simp; done) | (simp; omega)))); rintro r _ ⟨rfl, z, rfl⟩))
              go_roundw
              case rel =>
                refine ⟨m + 1, by omega, by go_num, Cls.of ?_⟩
                repeat first | with_reducible exact Below.refl _ _ | with_reducible refine Below.setCell ?_ (by first | omega | (simp; done) | (simp; omega)) _ | with_reducible refine Below.alloc ?_ (by first | omega | (simp; done) | (simp; omega)) _ | with_reducible refine Below.drew ?_ | with_reducible refine Ext.on _ ?_ (by first | omega | (simp; done) | (simp; omega))
              case measure => simp [intOf]; omega
          · clear HK
            go_wp2_with fail
            go_loopw [6] (fun i wr => ∃ m : Nat, m ≤ fln ∧ i = .int .i64 m ∧ Cls (x.val.alloc (.cells #[.string tn, .slice ca cn cc, .slice pa pn pc, .slice ua un uc, .slice fa fln fc, .slice ka kn kc] 36)) wr) (fun i _ => fln - (intOf i).toNat)
            case atStart => exact ⟨0, Nat.zero_le _, rfl, y, rfl⟩
            case round =>
              obtain ⟨m2, hm2, rfl, y2, rfl⟩ := hrel
              have ys2 := y2.size
              simp at ys2
              by_cases hlt2 : m2 < fln
              · obtain ⟨b2, off2, ha2, hb2', hc2⟩ := HF.out.2.2.2 m2 hlt2
                simp only at ha2
                subst ha2
                have hb3 : b2 < w.heap.size + 1 := by omega
                have hb4 : b2 < x.val.heap.size + 1 := by omega
                have hb5 : b2 < x.val.heap.size := by omega
                have p0 := hc2 0 (by omega)
                have hl2 := HFQ.out m2 hlt2
                unfold maxLen at hl2
                simp only [Sl.v, List.getElem?_cons_zero, Nat.add_zero] at p0
                clear hc2
                generalize fk m2 = u at p0 hl2
                obtain ⟨la, ln, lc⟩ := u
                simp only at p0 hl2
                go_wp2_with fail
                all_goals first
                  | (go_ret
                     refine ⟨false, rfl, (fun h => by cases h), Cls.of ?_⟩
                     repeat first | with_reducible exact Below.refl _ _ | with_reducible refine Below.setCell ?_ (by first | omega | (simp; done) | (simp; omega)) _ | with_reducible refine Below.alloc ?_ (by first | omega | (simp; done) | (simp; omega)) _ | with_reducible refine Below.drew ?_ | with_reducible refine Ext.on _ ?_ (by first | omega | (simp; done) | (simp; omega)))
                  | (go_roundw
                     case rel =>
                       refine ⟨m2 + 1, by omega, by go_num, Cls.of ?_⟩
                       repeat first | with_reducible exact Below.refl _ _ | with_reducible refine Below.setCell ?_ (by first | omega | (simp; done) | (simp; omega)) _ | with_reducible refine Below.alloc ?_ (by first | omega | (simp; done) | (simp; omega)) _ | with_reducible refine Below.drew ?_ | with_reducible refine Ext.on _ ?_ (by first | omega | (simp; done) | (simp; omega))
                     case measure => simp [intOf]; omega)
              · go_wp2_with fail
                go_loopw [7] (fun i wr => ∃ m : Nat, m ≤ un ∧ i = .int .i64 m ∧ Cls (x.val.alloc (.cells #[.string tn, .slice ca cn cc, .slice pa pn pc, .slice ua un uc, .slice fa fln fc, .slice ka kn kc] 36)) wr) (fun i _ => un - (intOf i).toNat)
                case atStart => exact ⟨0, Nat.zero_le _, rfl, y2, rfl⟩
                case round =>
                  obtain ⟨m3, hm3, rfl, y3, rfl⟩ := hrel
                  have ys3 := y3.size
                  simp at ys3
                  by_cases hlt3 : m3 < un
                  · obtain ⟨b2, off2, ha2, hb2', hc2⟩ := HU.out.2.2.2 m3 hlt3
                    simp only at ha2
                    subst ha2
                    have hb3 : b2 < w.heap.size + 1 := by omega
                    have hb4 : b2 < x.val.heap.size + 1 := by omega
                    have hb5 : b2 < x.val.heap.size := by omega
                    have p0 := hc2 0 (by omega)
                    have hl2 := HUQ.out m3 hlt3
                    unfold maxLen at hl2
                    simp only [Sl.v, List.getElem?_cons_zero, Nat.add_zero, Nat.mul_one] at p0
                    clear hc2
                    generalize uq m3 = u at p0 hl2
                    obtain ⟨la, ln, lc⟩ := u
                    simp only at p0 hl2
                    go_wp2_with fail
                    all_goals first
                      | (go_ret
                         refine ⟨false, rfl, (fun h => by cases h), Cls.of ?_⟩
                         repeat first | with_reducible exact Below.refl _ _ | with_reducible refine Below.setCell ?_ (by first | omega | (simp; done) | (simp; omega)) _ | with_reducible refine Below.alloc ?_ (by first | omega | (simp; done) | (simp; omega)) _ | with_reducible refine Below.drew ?_ | with_reducible refine Ext.on _ ?_ (by first | omega | (simp; done) | (simp; omega)))
                      | (go_roundw
                         case rel =>
                           refine ⟨m3 + 1, by omega, by go_num, Cls.of ?_⟩
                           repeat first | with_reducible exact Below.refl _ _ | with_reducible refine Below.setCell ?_ (by first | omega | (simp; done) | (simp; omega)) _ | with_reducible refine Below.alloc ?_ (by first | omega | (simp; done) | (simp; omega)) _ | with_reducible refine Below.drew ?_ | with_reducible refine Ext.on _ ?_ (by first | omega | (simp; done) | (simp; omega))
                         case measure => simp [intOf]; omega)
                  · go_wp2_with fail
                    go_roundw
                    case rel =>
                      refine ⟨j + 1, by omega, by go_num, HT2.out, Cls.of ?_⟩
                      repeat first | with_reducible exact Below.refl _ _ | with_reducible refine Below.setCell ?_ (by first | omega | (simp; done) | (simp; omega)) _ | with_reducible refine Below.alloc ?_ (by first | omega | (simp; done) | (simp; omega)) _ | with_reducible refine Below.drew ?_ | with_reducible refine Ext.on _ ?_ (by first | omega | (simp; done) | (simp; omega))
                    case measure => simp [intOf]; omega
      · go_wp2_with fail
        go_ret
        refine ⟨true, rfl, fun _ => ⟨by simp only; omega, fun i hi => HE.out i (by simp only at hi; omega)⟩, Cls.of ?_⟩
        repeat first | with_reducible exact Below.refl _ _ | with_reducible refine Below.setCell ?_ (by first | omega | (simp; done) | (simp; omega)) _ | with_reducible refine Below.alloc ?_ (by first | omega | (simp; done) | (simp; omega)) _ | with_reducible refine Below.drew ?_ | with_reducible refine Ext.on _ ?_ (by first | omega | (simp; done) | (simp; omega))
end Go.Proofs.Ytilnnpeknkjjmaa
