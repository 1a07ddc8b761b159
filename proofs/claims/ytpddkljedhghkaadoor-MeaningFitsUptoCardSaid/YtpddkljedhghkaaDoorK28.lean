/-
  Which schemas and instances the laws of meaning look at: the bounds of a schema that is looked at, its checks' depths among them. Keys: the reference's listed.
-/
import Derived.Test.YtpddkljedhghkaaDoorK25
import Derived.Test.YtpddkljedhghkaaDoorK27
import Derived.Test.YtpddkljedhghkaaDoorK12
set_option linter.unusedVariables false
namespace Go.Proofs.YtpddkljedhghkaaDoor
open Go Go.RowKit Go.Deep
theorem fewB_dep : ∀ (e : Ex) (d : Nat), fewB e d = true → depE e + d ≤ 61 := by
  refine Ex.ind fun e ih => ?_
  intro d h
  rw [fewB_eq] at h
  split at h
  · cases h
  · split at h
    · cases h
    · split at h
      · cases h
      · have key : ∀ l : List Ex, (∀ k ∈ l, ∀ d, fewB k d = true → depE k + d ≤ 61) → fewL l (d + 1) = true → depL l + d ≤ 60 := by
          intro l
          induction l with
          | nil => intro _ _; simp only [depL]; omega
          | cons k r ih2 =>
            intro hk h
            rw [fewL] at h
            by_cases hf : fewB k (d + 1) = true
            · rw [if_pos hf] at h
              have h1 := hk k (by simp) (d + 1) hf
              have h2 := ih2 (fun k hk2 => hk k (List.mem_cons_of_mem _ hk2)) h
              simp only [depL]
              omega
            · rw [if_neg hf] at h
              cases h
        have := key e.kids ih h
        rw [depE_eq]
        omega
theorem bigB_dep {e : Ex} (h : bigB e = true) : depE e ≤ 61 := by
  unfold bigB at h
  by_cases hf : fewB e 0 = true
  · exact fewB_dep e 0 hf
  · rw [if_neg hf] at h; cases h
def TbFew (t : Tb) : Prop := t.cs.len ≤ 20 ∧ ∀ m, m < t.checks.length → bigB (t.checks.getD m Ex.z) = true
def FewIs (sl : Sl) (tb : Nat → Tb) (w : World) (r : Ending) (w' : World) : Prop := ∃ b : Bool, r = .returned (.bool b) ∧ (b = true → sl.len ≤ 10 ∧ ∀ i, i < sl.len → TbFew (tb i)) ∧ Cls w w'
set_option maxHeartbeats 4000000 in
set_option maxRecDepth 20000 in
theorem Few3_calls (sl : Sl) (tb : Nat → Tb) (w : World) (h : TabsAt w sl tb) :
    Calls Tryd.prog 19 #[.agg #[.slice sl.a sl.len sl.cap]] w fun r w' => FewIs sl tb w r w' := by
  have hle := h.1.1
  have hmax := h.1.2.1
  unfold maxLen at hmax
  have H := Lib.hid h
  clear h
  obtain ⟨sa, sn, sc⟩ := sl
  simp only at hle hmax ⊢
  by_cases h10 : 10 < sn
  · have d1 : decide ((10 : Int) < (sn : Int)) = true := by simp; omega
    go_enter Tryd.func19, Tryd.ntmps19
    go_wp2_with fail
    go_ret
    refine ⟨false, rfl, (fun h => by cases h), Cls.of ?_⟩
    repeat first | with_reducible exact Below.refl _ _ | with_reducible refine Below.setCell ?_ (by first | omega | (simp; done) | (simp; omega)) _ | with_reducible refine Below.alloc ?_ (by first | omega | (simp; done) | (simp; omega)) _ | with_reducible refine Below.drew ?_ | with_reducible refine Ext.on _ ?_ (by first | omega | (simp; done) | (simp; omega))
  · have d1 : decide ((10 : Int) < (sn : Int)) = false := by simp; omega
    go_enter Tryd.func19, Tryd.ntmps19
    go_wp2_with fail
    go_loopw [3] (fun i wr => ∃ j : Nat, j ≤ sn ∧ i = .int .i64 j ∧ (∀ i, i < j → TbFew (tb i)) ∧ Cls (w.alloc (.cells #[.slice sa sn sc] 45)) wr) (fun i _ => sn - (intOf i).toNat)
    case atStart => exact ⟨0, Nat.zero_le _, rfl, (fun i h => by omega), Cls.of (Below.refl _ _)⟩
    case round =>
      obtain ⟨j, hj, rfl, he, x, rfl⟩ := hrel
      have HE := Lib.hid he
      clear he
      have xs := x.size
      have xs2 : w.heap.size + 1 ≤ x.val.heap.size := by simpa using xs
      by_cases hltj : j < sn
      · obtain ⟨b, off, ha, hb2, hc⟩ := H.out.1.2.2.2 j hltj
        have HT := Lib.hid (H.out.2 j hltj)
        simp only at ha
        subst ha
        have q0 := hc 0 (by omega)
        have q1 := hc 1 (by omega)
        have q2 := hc 2 (by omega)
        have q3 := hc 3 (by omega)
        have q4 := hc 4 (by omega)
        have q5 := hc 5 (by omega)
        have hb1 : b < w.heap.size + 1 := by omega
        simp only [Tb.cells, Sl.v, List.getElem?_cons_zero, List.getElem?_cons_succ, Nat.add_zero] at q0 q1 q2 q3 q4 q5
        clear hc
        have HTJ : Hid (∀ i, i < j + 1 → TbFew (tb j) → TbFew (tb i)) := Lib.hid (fun i hi h2 => by
          by_cases e : i = j
          · subst e; exact h2
          · exact HE.out i (by omega))
        generalize tb j = t at q0 q1 q2 q3 q4 q5 HT HTJ
        obtain ⟨tn, ⟨ca, cn, cc⟩, col, ⟨pa, pn, pc⟩, prim, ⟨ua, un, uc⟩, uq, uqn, ⟨fa, fln, fc⟩, fk, fkn, fkt, ⟨ka, kn, kc⟩, checks⟩ := t
        have HK : Hid (Kids w (fun _ => True) ka kn kc checks) := Lib.hid HT.out.kids
        have HF : Hid (SlAt w 2 ⟨fa, fln, fc⟩ fun i => [(fk i).v, .string (fkt i)]) := Lib.hid HT.out.fks
        have HU : Hid (SlAt w 1 ⟨ua, un, uc⟩ fun i => [(uq i).v]) := Lib.hid HT.out.uqs
        have HUQ : Hid (∀ i, i < un → (uq i).len ≤ maxLen) := Lib.hid (fun i hi => Nat.le_trans (HT.out.uqn i hi).1 (HT.out.uqn i hi).2.1)
        have HFQ : Hid (∀ i, i < fln → (fk i).len ≤ maxLen) := Lib.hid (fun i hi => Nat.le_trans (HT.out.fkn i hi).1.1 (HT.out.fkn i hi).1.2.1)
        have hkn : kn ≤ maxLen := Nat.le_trans HT.out.kids.le HT.out.kids.max
        have hfn : fln ≤ maxLen := Nat.le_trans HF.out.1 HF.out.2.1
        have hun : un ≤ maxLen := Nat.le_trans HU.out.1 HU.out.2.1
        unfold maxLen at hkn hfn hun
        simp only at q0 q1 q2 q3 q4 q5 HTJ
        clear HT
        go_wp2_with fail
        all_goals first
          | (go_ret
             refine ⟨false, rfl, (fun h => by cases h), Cls.of ?_⟩
             repeat first | with_reducible exact Below.refl _ _ | with_reducible refine Below.setCell ?_ (by first | omega | (simp; done) | (simp; omega)) _ | with_reducible refine Below.alloc ?_ (by first | omega | (simp; done) | (simp; omega)) _ | with_reducible refine Below.drew ?_ | with_reducible refine Ext.on _ ?_ (by first | omega | (simp; done) | (simp; omega)))
          | skip
        have hcs : cn ≤ 20 := by
          first | omega | (simp at *; omega)
        have HKL : Hid (checks.length = kn) := Lib.hid HK.out.len_eq
        go_loopw [5] (fun i wr => ∃ m : Nat, m ≤ kn ∧ i = .int .i64 m ∧ (∀ i, i < m → bigB (checks.getD i Ex.z) = true) ∧ Cls (x.val.alloc (.cells #[.string tn, .slice ca cn cc, .slice pa pn pc, .slice ua un uc, .slice fa fln fc, .slice ka kn kc] 53)) wr) (fun i _ => kn - (intOf i).toNat)
        case atStart => exact ⟨0, Nat.zero_le _, rfl, (fun i h => by omega), Cls.of (Below.refl _ _)⟩
        case round =>
          obtain ⟨m, hm, rfl, hbig, y, rfl⟩ := hrel
          have HBG := Lib.hid hbig
          clear hbig
          have ys := y.size
          simp at ys
          by_cases hlt : m < kn
          · obtain ⟨a', len', cap', ⟨b2, off2, rfl, hb2', hok, p0, p1, p2, p3, p4, p5⟩, hfine, hk'⟩ := HK.out.at_ (i := m) hlt
            have hb3 : b2 < w.heap.size + 1 := by omega
            have hb4 : b2 < x.val.heap.size + 1 := by omega
            have hb5 : b2 < x.val.heap.size := by omega
            have C1 : Hid (∀ W, Below w.heap.size w W → Calls Tryd.prog 24 #[.agg #[.int .i64 (checks.getD m Ex.z).op, .int .i64 (checks.getD m Ex.z).ty, .int .i64 (checks.getD m Ex.z).num, .string (checks.getD m Ex.z).text, .int .i64 (checks.getD m Ex.z).col, .slice a' len' cap']] W fun r w' => r = .returned (.bool (bigB (checks.getD m Ex.z))) ∧ Cls W w') := Lib.hid (fun W hW => Few_calls _ a' len' cap' _ W (hk'.later hW) hfine.2.2.2.1)
            clear hk' hfine hok
            have HBE : Hid (∀ b, bigB (checks.getD m Ex.z) = b → b = true → ∀ i, i < m + 1 → bigB (checks.getD i Ex.z) = true) := Lib.hid fun b hb hb2 i hi => by
              by_cases e : i = m
              · subst e; rw [hb, hb2]
              · exact HBG.out i (by omega)
            generalize hbe : bigB (checks.getD m Ex.z) = be at C1
            have HB3 := Lib.hid (HBE.out be hbe)
            clear hbe HBE
            generalize checks.getD m Ex.z = e at C1 p0 p1 p2 p3 p4 p5
            cases be
            · go_wp2_with (go_at_call 24; ((with_reducible refine (C1.out _ ?_).mono ?_); (· (repeat first | with_reducible exact Below.refl _ _ | with_reducible refine Below.setCell ?_ (by first | omega | (simp; done) | (simp; omega)) _ | with_reducible refine Below.alloc ?_ (by first | omega | (simp; done) | (simp; omega)) _ | with_reducible refine Below.drew ?_ | with_reducible refine Ext.on _ ?_ (by first | omega | (simp; done) | (simp; omega)))); rintro r _ ⟨rfl, z, rfl⟩))
              go_ret
              refine ⟨false, rfl, (fun h => by cases h), Cls.of ?_⟩
              repeat first | with_reducible exact Below.refl _ _ | with_reducible refine Below.setCell ?_ (by first | omega | (simp; done) | (simp; omega)) _ | with_reducible refine Below.alloc ?_ (by first | omega | (simp; done) | (simp; omega)) _ | with_reducible refine Below.drew ?_ | with_reducible refine Ext.on _ ?_ (by first | omega | (simp; done) | (simp; omega))
            · go_wp2_with (go_at_call 24; ((with_reducible refine (C1.out _ ?_).mono ?_); (· (repeat first | with_reducible exact Below.refl _ _ | with_reducible refine Below.setCell ?_ (by first | omega | (simp; done) | (simp; omega)) _ | with_reducible refine Below.alloc ?_ (by first | omega | (simp; done) | (simp; omega)) _ | with_reducible refine Below.drew ?_ | with_reducible refine Ext.on _ ?_ (by first | omega | (simp; done) | (simp; omega)))); rintro r _ ⟨rfl, z, rfl⟩))
              go_roundw
              case rel =>
                refine ⟨m + 1, by omega, by go_num, HB3.out trivial, Cls.of ?_⟩
                repeat first | with_reducible exact Below.refl _ _ | with_reducible refine Below.setCell ?_ (by first | omega | (simp; done) | (simp; omega)) _ | with_reducible refine Below.alloc ?_ (by first | omega | (simp; done) | (simp; omega)) _ | with_reducible refine Below.drew ?_ | with_reducible refine Ext.on _ ?_ (by first | omega | (simp; done) | (simp; omega))
              case measure => simp [intOf]; omega
          · have HT2 := Lib.hid (HTJ.out · · ⟨hcs, fun i hi => HBG.out i (by have := HKL.out; simp only at hi; omega)⟩)
            clear HK HTJ HBG HKL
            go_wp2_with fail
            go_loopw [6] (fun i wr => ∃ m : Nat, m ≤ fln ∧ i = .int .i64 m ∧ Cls (x.val.alloc (.cells #[.string tn, .slice ca cn cc, .slice pa pn pc, .slice ua un uc, .slice fa fln fc, .slice ka kn kc] 53)) wr) (fun i _ => fln - (intOf i).toNat)
            case atStart => exact ⟨0, Nat.zero_le _, rfl, y, rfl⟩
            case round =>
              obtain ⟨m2, hm2, rfl, y2, rfl⟩ := hrel
              have ys2 := y2.size
              simp at ys2
              by_cases hlt2 : m2 < fln
              · obtain ⟨b2, off2, ha2, hb2', hc2⟩ := HF.out.2.2.2 m2 hlt2
                simp only at ha2
                subst ha2
                have hb3 : b2 < w.heap.size + 1 := by omega
                have hb4 : b2 < x.val.heap.size + 1 := by omega
                have hb5 : b2 < x.val.heap.size := by omega
                have p0 := hc2 0 (by omega)
                have hl2 := HFQ.out m2 hlt2
                unfold maxLen at hl2
                simp only [Sl.v, List.getElem?_cons_zero, Nat.add_zero] at p0
                clear hc2
                generalize fk m2 = u at p0 hl2
                obtain ⟨la, ln, lc⟩ := u
                simp only at p0 hl2
                go_wp2_with fail
                all_goals first
                  | (go_ret
                     refine ⟨false, rfl, (fun h => by cases h), Cls.of ?_⟩
                     repeat first | with_reducible exact Below.refl _ _ | with_reducible refine Below.setCell ?_ (by first | omega | (simp; done) | (simp; omega)) _ | with_reducible refine Below.alloc ?_ (by first | omega | (simp; done) | (simp; omega)) _ | with_reducible refine Below.drew ?_ | with_reducible refine Ext.on _ ?_ (by first | omega | (simp; done) | (simp; omega)))
                  | (go_roundw
                     case rel =>
                       refine ⟨m2 + 1, by omega, by go_num, Cls.of ?_⟩
                       repeat first | with_reducible exact Below.refl _ _ | with_reducible refine Below.setCell ?_ (by first | omega | (simp; done) | (simp; omega)) _ | with_reducible refine Below.alloc ?_ (by first | omega | (simp; done) | (simp; omega)) _ | with_reducible refine Below.drew ?_ | with_reducible refine Ext.on _ ?_ (by first | omega | (simp; done) | (simp; omega))
                     case measure => simp [intOf]; omega)
              · go_wp2_with fail
                go_loopw [7] (fun i wr => ∃ m : Nat, m ≤ un ∧ i = .int .i64 m ∧ Cls (x.val.alloc (.cells #[.string tn, .slice ca cn cc, .slice pa pn pc, .slice ua un uc, .slice fa fln fc, .slice ka kn kc] 53)) wr) (fun i _ => un - (intOf i).toNat)
                case atStart => exact ⟨0, Nat.zero_le _, rfl, y2, rfl⟩
                case round =>
                  obtain ⟨m3, hm3, rfl, y3, rfl⟩ := hrel
                  have ys3 := y3.size
                  simp at ys3
                  by_cases hlt3 : m3 < un
                  · obtain ⟨b2, off2, ha2, hb2', hc2⟩ := HU.out.2.2.2 m3 hlt3
                    simp only at ha2
                    subst ha2
                    have hb3 : b2 < w.heap.size + 1 := by omega
                    have hb4 : b2 < x.val.heap.size + 1 := by omega
                    have hb5 : b2 < x.val.heap.size := by omega
                    have p0 := hc2 0 (by omega)
                    have hl2 := HUQ.out m3 hlt3
                    unfold maxLen at hl2
                    simp only [Sl.v, List.getElem?_cons_zero, Nat.add_zero, Nat.mul_one] at p0
                    clear hc2
                    generalize uq m3 = u at p0 hl2
                    obtain ⟨la, ln, lc⟩ := u
                    simp only at p0 hl2
                    go_wp2_with fail
                    all_goals first
                      | (go_ret
                         refine ⟨false, rfl, (fun h => by cases h), Cls.of ?_⟩
                         repeat first | with_reducible exact Below.refl _ _ | with_reducible refine Below.setCell ?_ (by first | omega | (simp; done) | (simp; omega)) _ | with_reducible refine Below.alloc ?_ (by first | omega | (simp; done) | (simp; omega)) _ | with_reducible refine Below.drew ?_ | with_reducible refine Ext.on _ ?_ (by first | omega | (simp; done) | (simp; omega)))
                      | (go_roundw
                         case rel =>
                           refine ⟨m3 + 1, by omega, by go_num, Cls.of ?_⟩
                           repeat first | with_reducible exact Below.refl _ _ | with_reducible refine Below.setCell ?_ (by first | omega | (simp; done) | (simp; omega)) _ | with_reducible refine Below.alloc ?_ (by first | omega | (simp; done) | (simp; omega)) _ | with_reducible refine Below.drew ?_ | with_reducible refine Ext.on _ ?_ (by first | omega | (simp; done) | (simp; omega))
                         case measure => simp [intOf]; omega)
                  · go_wp2_with fail
                    go_roundw
                    case rel =>
                      refine ⟨j + 1, by omega, by go_num, HT2.out, Cls.of ?_⟩
                      repeat first | with_reducible exact Below.refl _ _ | with_reducible refine Below.setCell ?_ (by first | omega | (simp; done) | (simp; omega)) _ | with_reducible refine Below.alloc ?_ (by first | omega | (simp; done) | (simp; omega)) _ | with_reducible refine Below.drew ?_ | with_reducible refine Ext.on _ ?_ (by first | omega | (simp; done) | (simp; omega))
                    case measure => simp [intOf]; omega
      · go_wp2_with fail
        go_ret
        refine ⟨true, rfl, fun _ => ⟨by simp only; omega, fun i hi => HE.out i (by simp only at hi; omega)⟩, Cls.of ?_⟩
        repeat first | with_reducible exact Below.refl _ _ | with_reducible refine Below.setCell ?_ (by first | omega | (simp; done) | (simp; omega)) _ | with_reducible refine Below.alloc ?_ (by first | omega | (simp; done) | (simp; omega)) _ | with_reducible refine Below.drew ?_ | with_reducible refine Ext.on _ ?_ (by first | omega | (simp; done) | (simp; omega))
set_option maxHeartbeats 4000000 in
theorem Few7_calls (s : Sl) (r : Nat → Sl) (f : Nat → Nat → Vl) (w : World) (h : RwsAt w s r f) :
    Calls Tryd.prog 23 #[.slice s.a s.len s.cap] w fun e w' => ∃ b : Bool, e = .returned (.bool b) ∧ Cls w w' := by
  have hle := h.rows.1
  have hmax := h.rows.2.1
  unfold maxLen at hmax
  have HR := Lib.hid h.rows.2.2.2
  have HL : Hid (∀ k, k < s.len → (r k).len ≤ maxLen) := Lib.hid fun k hk => Nat.le_trans (h.vals k hk).1 (h.vals k hk).2.1
  clear h
  obtain ⟨sa, sn, sc⟩ := s
  simp only at hle hmax HR HL ⊢
  by_cases h80 : 80 < sn
  · have d1 : decide ((80 : Int) < (sn : Int)) = true := by simp; omega
    go_enter Tryd.func23, Tryd.ntmps23
    go_wp2_with fail
    go_ret
    exact ⟨false, rfl, Cls.of (Below.refl _ _)⟩
  · have d1 : decide ((80 : Int) < (sn : Int)) = false := by simp; omega
    go_enter Tryd.func23, Tryd.ntmps23
    go_wp2_with fail
    go_loopw [3] (fun i wr => ∃ j : Nat, j ≤ sn ∧ i = .int .i64 j ∧ Cls w wr) (fun i _ => sn - (intOf i).toNat)
    case atStart => exact ⟨0, Nat.zero_le _, rfl, Cls.of (Below.refl _ _)⟩
    case round =>
      obtain ⟨j, hj, rfl, x, rfl⟩ := hrel
      by_cases hlt : j < sn
      · obtain ⟨b, off, ha, hb, hc⟩ := HR.out j hlt
        subst ha
        have q0 := hc 0 (by omega)
        have hl := HL.out j hlt
        unfold maxLen at hl
        simp only [Sl.v, List.getElem?_cons_zero, Nat.add_zero, Nat.mul_one] at q0
        clear hc
        obtain ⟨g1, g2, g3, g4, g5⟩ := x.lts hb
        generalize r j = u at *
        obtain ⟨ua, un, uc⟩ := u
        simp only at q0 hl
        go_wp2_with fail
        all_goals first
          | (go_ret
             exact ⟨false, rfl, x, rfl⟩)
          | (go_roundw
             case rel => exact ⟨j + 1, by omega, by go_num, x, rfl⟩
             case measure => simp [intOf]; omega)
      · go_wp2_with fail
        go_ret
        exact ⟨true, rfl, x, rfl⟩
set_option maxHeartbeats 4000000 in
theorem Few8_calls (s : Sl) (t : Nat → Sl) (r : Nat → Nat → Sl) (f : Nat → Nat → Nat → Vl) (w : World) (h : InsAt w s t r f) :
    Calls Tryd.prog 20 #[.agg #[.slice s.a s.len s.cap]] w fun e w' => ∃ b : Bool, e = .returned (.bool b) ∧ Cls w w' := by
  have hle := h.tabs.1
  have hmax := h.tabs.2.1
  unfold maxLen at hmax
  have HR := Lib.hid h.tabs.2.2.2
  have HC : Hid (∀ k, k < s.len → ∀ W, Below w.heap.size w W → Calls Tryd.prog 23 #[.slice (t k).a (t k).len (t k).cap] W fun e w' => ∃ b : Bool, e = .returned (.bool b) ∧ Cls W w') := Lib.hid fun k hk W hW => Few7_calls (t k) (r k) (f k) W ((h.rws k hk).later hW)
  clear h
  obtain ⟨sa, sn, sc⟩ := s
  simp only at hle hmax HR HC ⊢
  by_cases h10 : 10 < sn
  · have d1 : decide ((10 : Int) < (sn : Int)) = true := by simp; omega
    go_enter Tryd.func20, Tryd.ntmps20
    go_wp2_with fail
    go_ret
    refine ⟨false, rfl, Cls.of ?_⟩
    repeat first | with_reducible exact Below.refl _ _ | with_reducible refine Below.setCell ?_ (by first | omega | (simp; done) | (simp; omega)) _ | with_reducible refine Below.alloc ?_ (by first | omega | (simp; done) | (simp; omega)) _ | with_reducible refine Below.drew ?_ | with_reducible refine Ext.on _ ?_ (by first | omega | (simp; done) | (simp; omega))
  · have d1 : decide ((10 : Int) < (sn : Int)) = false := by simp; omega
    go_enter Tryd.func20, Tryd.ntmps20
    go_wp2_with fail
    go_loopw [3] (fun i wr => ∃ j : Nat, j ≤ sn ∧ i = .int .i64 j ∧ Cls (w.alloc (.cells #[.slice sa sn sc] 61)) wr) (fun i _ => sn - (intOf i).toNat)
    case atStart => exact ⟨0, Nat.zero_le _, rfl, Cls.of (Below.refl _ _)⟩
    case round =>
      obtain ⟨j, hj, rfl, x, rfl⟩ := hrel
      have xs := x.size
      simp at xs
      by_cases hlt : j < sn
      · obtain ⟨b, off, ha, hb, hc⟩ := HR.out j hlt
        subst ha
        have hb1 : b < w.heap.size + 1 := by omega
        have q0 := hc 0 (by omega)
        have C1 := Lib.hid (HC.out j hlt)
        simp only [Sl.v, List.getElem?_cons_zero, Nat.add_zero, Nat.mul_one] at q0
        clear hc
        generalize t j = u at *
        obtain ⟨ua, un, uc⟩ := u
        simp only at q0 C1
        go_wp2_with (go_at_call 23; ((with_reducible refine (C1.out _ ?_).mono ?_); (· (repeat first | with_reducible exact Below.refl _ _ | with_reducible refine Below.setCell ?_ (by first | omega | (simp; done) | (simp; omega)) _ | with_reducible refine Below.alloc ?_ (by first | omega | (simp; done) | (simp; omega)) _ | with_reducible refine Below.drew ?_ | with_reducible refine Ext.on _ ?_ (by first | omega | (simp; done) | (simp; omega)))); rintro e _ ⟨bb, rfl, y, rfl⟩; cases bb))
        · go_ret
          refine ⟨false, rfl, Cls.of ?_⟩
          repeat first | with_reducible exact Below.refl _ _ | with_reducible refine Below.setCell ?_ (by first | omega | (simp; done) | (simp; omega)) _ | with_reducible refine Below.alloc ?_ (by first | omega | (simp; done) | (simp; omega)) _ | with_reducible refine Below.drew ?_ | with_reducible refine Ext.on _ ?_ (by first | omega | (simp; done) | (simp; omega))
        · go_roundw
          case rel =>
            refine ⟨j + 1, by omega, by go_num, Cls.of ?_⟩
            repeat first | with_reducible exact Below.refl _ _ | with_reducible refine Below.setCell ?_ (by first | omega | (simp; done) | (simp; omega)) _ | with_reducible refine Below.alloc ?_ (by first | omega | (simp; done) | (simp; omega)) _ | with_reducible refine Below.drew ?_ | with_reducible refine Ext.on _ ?_ (by first | omega | (simp; done) | (simp; omega))
          case measure => simp [intOf]; omega
      · go_wp2_with fail
        go_ret
        refine ⟨true, rfl, Cls.of ?_⟩
        repeat first | with_reducible exact Below.refl _ _ | with_reducible refine Below.setCell ?_ (by first | omega | (simp; done) | (simp; omega)) _ | with_reducible refine Below.alloc ?_ (by first | omega | (simp; done) | (simp; omega)) _ | with_reducible refine Below.drew ?_ | with_reducible refine Ext.on _ ?_ (by first | omega | (simp; done) | (simp; omega))
end Go.Proofs.YtpddkljedhghkaaDoor
set_option linter.unusedVariables false
namespace Go.Proofs.YtpddkljedhghkaaDoor
open Go Go.RowKit Go.Deep
set_option maxHeartbeats 8000000 in
set_option maxRecDepth 20000 in
theorem listed_calls (t : Tb) (s : Sl) (f : Nat → Int) (w : World) (hs : SlAt w 1 s (intC f)) (hc0 : t.cs.len ≤ maxLen) :
    Calls Tryd.prog 107 #[.agg #[.string t.name, .slice t.cs.a t.cs.len t.cs.cap, .slice t.ps.a t.ps.len t.ps.cap, .slice t.us.a t.us.len t.us.cap, .slice t.fs.a t.fs.len t.fs.cap, .slice t.ks.a t.ks.len t.ks.cap], .slice s.a s.len s.cap] w fun r w' => r = .returned (.bool (keyB t.cs.len f s.len)) ∧ Cls w w' := by
  have hle := hs.1
  have hmax := hs.2.1
  unfold maxLen at hmax hc0
  have H := Lib.hid hs
  clear hs
  obtain ⟨tn, ⟨ca, cn, cc⟩, tf, tps, tprim, tus, tuq, tuqn, tfs, tfk, tfkn, tfkt, tks, tch⟩ := t
  obtain ⟨sa, sn, sc⟩ := s
  simp only at hle hmax H hc0
  go_enter Tryd.func107, Tryd.ntmps107
  go_wp2_with fail
  have hbl : (w.alloc (.cells #[.string tn, .slice ca cn cc, .slice tps.a tps.len tps.cap, .slice tus.a tus.len tus.cap, .slice tfs.a tfs.len tfs.cap, .slice tks.a tks.len tks.cap] 53)).heap[w.heap.size]? = some (.cells #[.string tn, .slice ca cn cc, .slice tps.a tps.len tps.cap, .slice tus.a tus.len tus.cap, .slice tfs.a tfs.len tfs.cap, .slice tks.a tks.len tks.cap] 53) := heap_alloc_new w _
  have HBL := Lib.hid hbl
  have HB0 : Hid (Below w.heap.size w (w.alloc (.cells #[.string tn, .slice ca cn cc, .slice tps.a tps.len tps.cap, .slice tus.a tus.len tus.cap, .slice tfs.a tfs.len tfs.cap, .slice tks.a tks.len tks.cap] 53))) := Lib.hid (by repeat first | with_reducible exact Below.refl _ _ | with_reducible refine Below.setCell ?_ (by first | omega | (simp; done) | (simp; omega)) _ | with_reducible refine Below.alloc ?_ (by first | omega | (simp; done) | (simp; omega)) _ | with_reducible refine Below.drew ?_ | with_reducible refine Ext.on _ ?_ (by first | omega | (simp; done) | (simp; omega)))
  have h0s : w.heap.size < (w.alloc (.cells #[.string tn, .slice ca cn cc, .slice tps.a tps.len tps.cap, .slice tus.a tus.len tus.cap, .slice tfs.a tfs.len tfs.cap, .slice tks.a tks.len tks.cap] 53)).heap.size := by simp
  clear hbl
  generalize (w.alloc (.cells #[.string tn, .slice ca cn cc, .slice tps.a tps.len tps.cap, .slice tus.a tus.len tus.cap, .slice tfs.a tfs.len tfs.cap, .slice tks.a tks.len tks.cap] 53)) = W0 at *
  obtain ⟨_, _, _, _, _, _, _, _, k1, _, _, _, _⟩ := six_z HBL.out
  go_loopw [5] (fun i wr => ∃ j : Nat, j ≤ sn ∧ i = .int .i64 j ∧ idx (badK cn f) 0 sn = idx (badK cn f) j (sn - j) ∧ Cls W0 wr) (fun i _ => sn - (intOf i).toNat)
  case atStart => exact ⟨0, Nat.zero_le _, rfl, rfl, Cls.of (Below.refl _ _)⟩
  case round =>
    obtain ⟨j, hj, rfl, he, x, rfl⟩ := hrel
    have HE := Lib.hid he
    clear he
    have xs := x.size
    by_cases hltj : j < sn
    · obtain ⟨b, off, ha, hb2, hc⟩ := H.out.2.2.2 j hltj
      simp only at ha
      subst ha
      have q0 := hc 0 (by omega)
      simp only [intC, List.getElem?_cons_zero, Nat.add_zero, Nat.mul_one] at q0
      rw [← HB0.out.cell (p := ⟨b, _, none⟩) hb2] at q0
      have hb3 : b < W0.heap.size := by omega
      have hS : Hid (sn - j = (sn - (j + 1)) + 1) := Lib.hid (by omega)
      have hP : Hid (badK cn f j = (decide (f j < 0) || decide ((cn : Int) ≤ f j) || decide (0 ≤ idx (sameP f (f j)) 0 j))) := Lib.hid rfl
      have HCK : Hid (∀ k, k < j → W0.cell? ⟨b, off + k, none⟩ = some (.int .i64 (f k)) ∧ ∀ v, sameP f v k = (v == f k)) := Lib.hid fun k hk => by
        obtain ⟨b', off', ha', hb', hc'⟩ := H.out.2.2.2 k (by show k < sn; omega)
        have ha2 : some (⟨b, off, none⟩ : Addr) = some ⟨b', off', none⟩ := ha'
        simp only [Option.some.injEq, Addr.mk.injEq, and_true] at ha2
        obtain ⟨rfl, rfl⟩ := ha2
        have r0 := hc' 0 (by omega)
        simp only [intC, List.getElem?_cons_zero, Nat.add_zero, Nat.mul_one] at r0
        rw [← HB0.out.cell (p := ⟨b, _, none⟩) hb2] at r0
        exact ⟨r0, fun v => rfl⟩
      clear hc
      generalize f j = u at q0 hP
      by_cases h1 : u < 0
      · have d1 : decide (u < 0) = true := by simp; omega
        have hQ : Hid (badK cn f j = true) := Lib.hid (by rw [hP.out, d1]; simp)
        go_wp2_with fail
        refine wp_region_on (by kernel_rfl) (by kernel_rfl) ?_
        repeat (go_big_quiet_step (fail))
        refine wpQuiet_nil ?_
        rintro _ ⟨y, rfl⟩
        go_wp2_with fail
        go_ret
        exact ⟨ret_bool (by show false = keyB cn f sn; rw [keyB_no (j := j) (by rw [HE.out, hS.out, idx_stop hQ.out])]), Cls.of (HB0.out.trans (y.below.mono (by omega)))⟩
      · have d1 : decide (u < 0) = false := by simp; omega
        by_cases h2 : (cn : Int) ≤ u
        · have d2 : decide ((cn : Int) ≤ u) = true := by simp; omega
          have hQ : Hid (badK cn f j = true) := Lib.hid (by rw [hP.out, d2]; simp)
          go_wp2_with fail
          refine wp_region_on (by kernel_rfl) (by kernel_rfl) ?_
          repeat (go_big_quiet_step (fail))
          refine wpQuiet_nil ?_
          rintro _ ⟨y, rfl⟩
          go_wp2_with fail
          go_ret
          exact ⟨ret_bool (by show false = keyB cn f sn; rw [keyB_no (j := j) (by rw [HE.out, hS.out, idx_stop hQ.out])]), Cls.of (HB0.out.trans (y.below.mono (by omega)))⟩
        · have d2 : decide ((cn : Int) ≤ u) = false := by simp; omega
          have hQ : Hid (badK cn f j = decide (0 ≤ idx (sameP f u) 0 j)) := Lib.hid (by rw [hP.out, d1, d2]; simp)
          go_wp2_with fail
          refine wp_region_on (by kernel_rfl) (by kernel_rfl) ?_
          repeat (go_big_quiet_step (fail))
          refine wpQuiet_nil ?_
          rintro _ ⟨y, rfl⟩
          go_wp2_with fail
          go_loopw [6] (fun i wr => ∃ k : Nat, k ≤ j ∧ i = .int .i64 k ∧ idx (sameP f u) 0 j = idx (sameP f u) k (j - k) ∧ Cls W0 wr) (fun i _ => j - (intOf i).toNat)
          case atStart => exact ⟨0, Nat.zero_le _, rfl, rfl, y, rfl⟩
          case round =>
            clear y
            obtain ⟨k, hk, rfl, hi, z, rfl⟩ := hrel
            have HI := Lib.hid hi
            clear hi
            have zs := z.size
            by_cases hltk : k < j
            · obtain ⟨r0, hsp⟩ := HCK.out k hltk
              have HSP := Lib.hid (hsp u)
              have hS2 : Hid (j - k = (j - (k + 1)) + 1) := Lib.hid (by omega)
              clear hsp
              generalize f k = v at r0 HSP
              by_cases huv : u = v
              · have hT : Hid (sameP f u k = true) := Lib.hid (by rw [HSP.out, huv]; simp)
                have hb : Hid (badK cn f j = true) := Lib.hid (by rw [hQ.out, HI.out, hS2.out, idx_stop hT.out]; simp)
                have b1 : (v == u) = true := by simp [huv]
                clear huv
                go_wp2_with fail
                refine wp_region_on (by kernel_rfl) (by kernel_rfl) ?_
                repeat (go_big_quiet_step (fail))
                refine wpQuiet_nil ?_
                rintro _ ⟨y, rfl⟩
                go_wp2_with fail
                go_ret
                exact ⟨ret_bool (by show false = keyB cn f sn; rw [keyB_no (j := j) (by rw [HE.out, hS.out, idx_stop hb.out])]), Cls.of (HB0.out.trans (y.below.mono (by omega)))⟩
              · have hT : Hid (sameP f u k = false) := Lib.hid (by rw [HSP.out]; simp [huv])
                have b1 : (v == u) = false := by simp; exact fun h => huv h.symm
                clear huv
                go_wp2_with fail
                refine wp_region_on (by kernel_rfl) (by kernel_rfl) ?_
                repeat (go_big_quiet_step (fail))
                refine wpQuiet_nil ?_
                rintro _ ⟨y, rfl⟩
                go_wp2_with fail
                go_roundw
                case rel => exact ⟨k + 1, by omega, by go_num, by rw [HI.out, hS2.out, idx_go hT.out], y, rfl⟩
                case measure => simp [intOf]; omega
            · have hz : Hid (j - k = 0) := Lib.hid (by omega)
              have hb : Hid (badK cn f j = false) := Lib.hid (by rw [hQ.out, HI.out, hz.out]; rfl)
              go_wp2_with fail
              go_roundw
              case rel => exact ⟨j + 1, by omega, by go_num, by rw [HE.out, hS.out, idx_go hb.out], z, rfl⟩
              case measure => simp [intOf]; omega
    · have hz : Hid (sn - j = 0) := Lib.hid (by omega)
      go_wp2_with fail
      go_ret
      exact ⟨ret_bool (by show decide (0 < sn) = keyB cn f sn; rw [keyB_end (by rw [HE.out, hz.out]; rfl)]), Cls.of (HB0.out.trans (x.below.mono (by omega)))⟩
end Go.Proofs.YtpddkljedhghkaaDoor
