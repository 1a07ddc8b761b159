/-
  The first error of a schema.
-/
import Derived.Test.YtdmhmlnfoocnjaaGreatDoorK35
import Derived.Test.YtdmhmlnfoocnjaaGreatDoorK26
import Derived.Test.YtdmhmlnfoocnjaaGreatDoorK45
set_option linter.unusedVariables false
namespace Go.Proofs.YtdmhmlnfoocnjaaGreatDoor
open Go Go.RowKit Go.Deep
theorem vtE_ref (sl : Sl) (tb : Nat → Tb) (g : Nat → Nat → Int × Int) (i : Nat) (hi : i < sl.len) : (nameB (tb i).name = false → vtE sl tb g i = 3) ∧ (nameB (tb i).name = true → (at0 (idx (nameP tb (tb i).name) 0 sl.len) ≠ i → vtE sl tb g i = 5) ∧ (at0 (idx (nameP tb (tb i).name) 0 sl.len) = i → vtE sl tb g i = tableE (tb i) (g i))) := by
  have hle := idx_le (p := nameP tb (tb i).name) sl.len 0 i (Nat.zero_le _) (by omega) (by unfold nameP; simp)
  have ha : at0 (idx (nameP tb (tb i).name) 0 sl.len) = idx (nameP tb (tb i).name) 0 sl.len := if_neg (by omega)
  obtain ⟨c1, c2⟩ := vtE_is sl tb g i
  rw [ha] at c1 c2 ⊢
  generalize idx (nameP tb (tb i).name) 0 sl.len = q at *
  refine ⟨fun h => ?_, fun h => ⟨fun h1 => ?_, fun h1 => ?_⟩⟩
  · have e : ∀ b, nameE (tb i).name b = 3 := fun b => by unfold nameE; rw [h, if_neg Bool.false_ne_true]
    rw [c2 (by rw [e]; decide), e]
  · have e : nameE (tb i).name (decide (q < i)) = 5 := by unfold nameE; rw [h, if_pos rfl, if_pos (by simp; omega)]
    rw [c2 (by rw [e]; decide), e]
  · have e : nameE (tb i).name (decide (q < i)) = 0 := by unfold nameE; rw [h, if_pos rfl, if_neg (by simp; omega)]
    exact c1 e
theorem fksB_ref (t o : Tb) (f g : Nat → Int) (n m : Nat) : (n ≠ m → fksB t o f g n m = false) ∧ (n = m → fksB t o f g n m = decide (idx (fksP t o f g) 0 n < 0)) := by
  unfold fksB
  refine ⟨fun h => ?_, fun h => ?_⟩
  · have : decide (n = m) = false := by simp [h]
    rw [this, Bool.false_and]
  · have : decide (n = m) = true := by simp [h]
    rw [this, Bool.true_and]
set_option maxHeartbeats 32000000 in
set_option maxRecDepth 20000 in
theorem rsValid_calls (sl : Sl) (tb : Nat → Tb) (g : Nat → Nat → Int × Int) (w : World) (h : TabsAt w sl tb) (hg : ∀ i, i < sl.len → rChkT w (tb i) (g i)) :
    Calls Tryz.prog 17 #[.agg #[.slice sl.a sl.len sl.cap]] w fun r w' => r = .returned (.int .i64 (validE sl tb g)) ∧ Cls w w' := by
  have hle := h.1.1
  have hmax := h.1.2.1
  unfold maxLen at hmax
  have HRW : Hid (∀ j, j < sl.len → ∃ b off, sl.a = some ⟨b, off, none⟩ ∧ b < w.heap.size ∧ ∀ i, i < 6 → w.cell? ⟨b, off + j * 6 + i, none⟩ = ((tb j).cells)[i]?) := Lib.hid h.1.2.2.2
  have HFI : Hid (∀ (s : ByteArray) (W : World), Below w.heap.size w W → Calls Tryz.prog 35 #[.agg #[.slice sl.a sl.len sl.cap], .string s] W fun r w' => r = .returned (.tuple #[.int .i64 (at0 (idx (nameP tb s) 0 sl.len)), .bool (decide (0 ≤ idx (nameP tb s) 0 sl.len))]) ∧ Cls W w') := Lib.hid fun s W hW => rFind_calls sl tb s W (h.later hW)
  have HTE : Hid (∀ j, j < sl.len → ∀ W, Below w.heap.size w W → Calls Tryz.prog 36 #[.agg #[.string (tb j).name, .slice (tb j).cs.a (tb j).cs.len (tb j).cs.cap, .slice (tb j).ps.a (tb j).ps.len (tb j).ps.cap, .slice (tb j).us.a (tb j).us.len (tb j).us.cap, .slice (tb j).fs.a (tb j).fs.len (tb j).fs.cap, .slice (tb j).ks.a (tb j).ks.len (tb j).ks.cap]] W fun r w' => r = .returned (.int .i64 (tableE (tb j) (g j))) ∧ Cls W w') := Lib.hid fun j hj W hW => table_calls (tb j) (g j) W ((h.2 j hj).later hW) ((hg j hj).later hW)
  have HNM : Hid (∀ j, j < sl.len → ∀ W, Calls Tryz.prog 34 #[.string (tb j).name] W fun r w' => r = .returned (.bool (nameB (tb j).name)) ∧ Cls W w') := Lib.hid fun j hj W => rName_calls _ W (h.2 j hj).name
  have HTG : Hid (∀ (j k : Nat) (W : World), Below w.heap.size w W → Calls Tryz.prog 37 #[.agg #[.slice sl.a sl.len sl.cap], .int .i64 (j : Nat), .int .i64 (k : Nat)] W fun r w' => r = .returned (.tuple #[.int .i64 (tgN sl tb j k : Nat), .bool (tgtB sl tb (j : Nat) (k : Nat))]) ∧ Cls W w') := Lib.hid fun j k W hW => by
    have h1 := rTarget_calls sl tb (j : Nat) (k : Nat) W (h.later hW)
    rw [tgt_nat] at h1
    exact h1
  have HTB : Hid (∀ j, j < sl.len → TbAt w (tb j)) := Lib.hid h.2
  have HKY : Hid (fstE (vtE sl tb g) 0 sl.len = 0 → ∀ i, i < sl.len → keyE (tb i) = 0) := Lib.hid fun he i hi => (vtE_key he hi).1
  have HOR : Hid (fstE (vtE sl tb g) 0 sl.len = 0 → sl.len ≤ 10 → ∀ W, Below w.heap.size w W → Calls Tryz.prog 38 #[.agg #[.slice sl.a sl.len sl.cap]] W (OrdIs sl tb W)) := Lib.hid fun he hn W hW => rOrder_calls sl tb W (h.later hW) hn fun i hi => by
    have := (vtE_key he hi).2
    omega
  have HIS := Lib.hid (vtE_ref sl tb g)
  have HIT := Lib.hid (tgtE1_is sl tb)
  have HLT : Hid (∀ j k : Nat, tgtB sl tb (j : Nat) (k : Nat) = true → tgN sl tb j k < sl.len) := Lib.hid fun j k => tg_lt
  have HX : Hid (tgtE sl tb = fstE (tgtE0 sl tb) 0 sl.len) := Lib.hid rfl
  have H0 : Hid (∀ j, tgtE0 sl tb j = fstE (tgtE1 sl tb j) 0 (tb j).fs.len) := Lib.hid fun j => rfl
  have HV := Lib.hid (validE_is sl tb g)
  have HAL : Hid (tgtE sl tb = 0 → allT sl tb) := Lib.hid tgtE_all
  have HOF : Hid (allT sl tb → ∀ (W : World) (r : Ending) (w' : World), OrdIs sl tb W r w' → ∃ (a : Option Addr) (n c : Nat) (e : Int), r = .returned (.tuple #[.slice a n c, .int .i64 e]) ∧ Cls W w' ∧ ((ordL sl tb sl.len).length < sl.len → e = 7) ∧ ((ordL sl tb sl.len).length = sl.len → e = 0)) := Lib.hid fun ha W r w' ho => ord_form_v ha ho
  have HOL : Hid ((ordL sl tb sl.len).length ≤ sl.len) := Lib.hid (ordL_len_le sl tb sl.len)
  clear h hg
  generalize vtE sl tb g = ve at *
  generalize validE sl tb g = vv at *
  generalize tgtE sl tb = te at *
  generalize tgtE0 sl tb = e0 at *
  generalize tgtE1 sl tb = e1 at *
  generalize OrdIs sl tb = OI at *
  generalize (ordL sl tb sl.len).length = ol at *
  generalize allT sl tb = al at *
  generalize tgtB sl tb = tB at *
  generalize tgN sl tb = tN at *
  obtain ⟨sa, sn, sc⟩ := sl
  simp only at hle hmax HRW HFI HTE HNM HTG HTB HKY HOR HIS HLT HX HV HOL HOF ⊢
  go_enter Tryz.func17, Tryz.ntmps17
  by_cases h6 : 6 < sn
  · have d1 : decide ((6 : Int) < (sn : Nat)) = true := by simp; omega
    have HT := Lib.hid (HV.out.1 h6)
    clear HV
    go_wp2_with fail
    go_ret
    refine ⟨ret_int (by rw [HT.out]), Cls.of ?_⟩
    repeat first|with_reducible exact Below.refl _ _|with_reducible refine Below.setCell ?_ (by first|omega|(simp;done)|(simp;omega)) _|with_reducible refine Below.alloc ?_ (by first|omega|(simp;done)|(simp;omega)) _|with_reducible refine Below.drew ?_|with_reducible refine Ext.on _ ?_ (by first|omega|(simp;done)|(simp;omega))
  have d1 : decide ((6 : Int) < (sn : Nat)) = false := by simp; omega
  have HU := Lib.hid (HV.out.2 h6)
  clear HV
  go_wp2_with fail
  have hbl : (w.alloc (.cells #[.slice sa sn sc] 28)).heap[w.heap.size]? = some (.cells #[.slice sa sn sc] 28) := heap_alloc_new w _
  have HBL := Lib.hid hbl
  have HB0 : Hid (Below w.heap.size w (w.alloc (.cells #[.slice sa sn sc] 28))) := Lib.hid (by repeat first|with_reducible exact Below.refl _ _|with_reducible refine Below.setCell ?_ (by first|omega|(simp;done)|(simp;omega)) _|with_reducible refine Below.alloc ?_ (by first|omega|(simp;done)|(simp;omega)) _|with_reducible refine Below.drew ?_|with_reducible refine Ext.on _ ?_ (by first|omega|(simp;done)|(simp;omega)))
  have h0s : w.heap.size < (w.alloc (.cells #[.slice sa sn sc] 28)).heap.size := by simp
  clear hbl d1
  generalize (w.alloc (.cells #[.slice sa sn sc] 28)) = W0 at *
  obtain ⟨_, _, f0⟩ := one_z HBL.out
  have HC : Hid (∀ y : Ext W0, Below w.heap.size w y.val) := Lib.hid fun y => HB0.out.trans (y.below.mono (by omega))
  have HCW : Hid (∀ j, j < sn → ∃ b off, sa = some ⟨b, off, none⟩ ∧ b < W0.heap.size ∧ W0.cell? ⟨b, off + j * 6, none⟩ = some (.string (tb j).name) ∧ W0.cell? ⟨b, off + j * 6 + 1, none⟩ = some (.slice (tb j).cs.a (tb j).cs.len (tb j).cs.cap) ∧ W0.cell? ⟨b, off + j * 6 + 2, none⟩ = some (.slice (tb j).ps.a (tb j).ps.len (tb j).ps.cap) ∧ W0.cell? ⟨b, off + j * 6 + 3, none⟩ = some (.slice (tb j).us.a (tb j).us.len (tb j).us.cap) ∧ W0.cell? ⟨b, off + j * 6 + 4, none⟩ = some (.slice (tb j).fs.a (tb j).fs.len (tb j).fs.cap) ∧ W0.cell? ⟨b, off + j * 6 + 5, none⟩ = some (.slice (tb j).ks.a (tb j).ks.len (tb j).ks.cap)) := Lib.hid fun j hj => by
    obtain ⟨b, off, ha, hb2, hc⟩ := HRW.out j hj
    have q0 := hc 0 (by omega)
    have q1 := hc 1 (by omega)
    have q2 := hc 2 (by omega)
    have q3 := hc 3 (by omega)
    have q4 := hc 4 (by omega)
    have q5 := hc 5 (by omega)
    simp only [Tb.cells, Sl.v, List.getElem?_cons_zero, List.getElem?_cons_succ, Nat.add_zero] at q0 q1 q2 q3 q4 q5
    rw [← HB0.out.cell (p := ⟨b, _, none⟩) hb2] at q0 q1 q2 q3 q4 q5
    exact ⟨b, off, ha, by omega, q0, q1, q2, q3, q4, q5⟩
  clear HRW
  go_loopw [3] (fun i wr => ∃ j : Nat, j ≤ sn ∧ i = .int .i64 j ∧ fstE ve 0 sn = fstE ve j (sn - j) ∧ Cls W0 wr) (fun i _ => sn - (intOf i).toNat)
  case atStart => exact ⟨0, Nat.zero_le _, rfl, rfl, Cls.of (Below.refl _ _)⟩
  case round =>
    obtain ⟨j, hj, rfl, he, x, rfl⟩ := hrel
    have HE := Lib.hid he
    clear he
    have xs := x.size
    by_cases hltj : j < sn
    · obtain ⟨b, off, ha, hb2, q0, q1, q2, q3, q4, q5⟩ := HCW.out j hltj
      subst ha
      obtain ⟨g1, g2, g3, g4, g5⟩ := x.lts h0s
      obtain ⟨g6, g7, g8, g9, g10⟩ := x.lts hb2
      have hS : Hid (sn - j = (sn - (j + 1)) + 1) := Lib.hid (by omega)
      have C1 := Lib.hid (HFI.out (tb j).name)
      have C2 := Lib.hid (HTE.out j hltj)
      have C3 := Lib.hid (HNM.out j hltj)
      obtain ⟨hp1, hp2⟩ := HIS.out j hltj
      have HP1 := Lib.hid hp1
      have HP2 := Lib.hid hp2
      clear hp1 hp2
      generalize at0 (idx (nameP tb (tb j).name) 0 sn) = a0 at C1 HP2
      generalize decide (0 ≤ idx (nameP tb (tb j).name) 0 sn) = bd at C1
      generalize nameB (tb j).name = nb at C3 HP1 HP2
      generalize tableE (tb j) (g j) = tv at C2 HP2
      cases nb
      · have hP := Lib.hid (HP1.out rfl)
        go_wp2_with (go_at_call 34; ((with_reducible refine (Cls.call (C3.out _)).mono ?_); rintro r _ ⟨rfl, y, rfl⟩))
        go_ret
        have hfe : fstE ve 0 sn = 3 := by rw [HE.out, hS.out, fstE_stop (by rw [hP.out]; decide), hP.out]
        exact ⟨ret_int (by rw [HU.out.1 (by rw [hfe]; decide), hfe]), Cls.of (HC.out y)⟩
      · by_cases ha : a0 = (j : Int)
        · have hP := Lib.hid ((HP2.out rfl).2 ha)
          have b1 : (a0 == (j : Int)) = true := by simp [ha]
          have b2 : (a0 != (j : Int)) = false := by simp [ha]
          clear ha HP1 HP2
          by_cases htv : tv = 0
          · have hP0 := Lib.hid (hP.out.trans htv)
            have b3 : (tv == 0) = true := by simp [htv]
            have b4 : (tv != 0) = false := by simp [htv]
            clear htv hP
            go_wp2_with (go_at_call 34; ((with_reducible refine (Cls.call (C3.out _)).mono ?_); rintro r _ ⟨rfl, y, rfl⟩; obtain ⟨l1, l2, l3, l4, l5⟩ := y.lts h0s; obtain ⟨l6, l7, l8, l9, l10⟩ := y.lts hb2; have ys := y.size))
            refine wp_region_on (by kernel_rfl) (by kernel_rfl) ?_
            repeat (go_big_quiet_step ((go_at_call 35; exact Cls.call (C1.out _ (HC.out _)))))
            refine wpQuiet_nil ?_
            rintro _ ⟨y2, rfl⟩
            go_wp2_with (go_at_call 36; ((with_reducible refine (Cls.call (C2.out _ (HC.out _))).mono ?_); rintro r _ ⟨rfl, z, rfl⟩))
            go_roundw
            case rel => exact ⟨j + 1, by omega, by go_num, by rw [HE.out, hS.out, fstE_go hP0.out], z, rfl⟩
            case measure => simp [intOf]; omega
          · have b3 : (tv == 0) = false := by simp [htv]
            have b4 : (tv != 0) = true := by simp [htv]
            have HTV := Lib.hid htv
            clear htv
            go_wp2_with (go_at_call 34; ((with_reducible refine (Cls.call (C3.out _)).mono ?_); rintro r _ ⟨rfl, y, rfl⟩; obtain ⟨l1, l2, l3, l4, l5⟩ := y.lts h0s; obtain ⟨l6, l7, l8, l9, l10⟩ := y.lts hb2; have ys := y.size))
            refine wp_region_on (by kernel_rfl) (by kernel_rfl) ?_
            repeat (go_big_quiet_step ((go_at_call 35; exact Cls.call (C1.out _ (HC.out _)))))
            refine wpQuiet_nil ?_
            rintro _ ⟨y2, rfl⟩
            go_wp2_with (go_at_call 36; ((with_reducible refine (Cls.call (C2.out _ (HC.out _))).mono ?_); rintro r _ ⟨rfl, z, rfl⟩))
            go_ret
            have hfe : fstE ve 0 sn = tv := by rw [HE.out, hS.out, fstE_stop (by rw [hP.out]; exact HTV.out), hP.out]
            exact ⟨ret_int (by rw [HU.out.1 (by rw [hfe]; exact HTV.out), hfe]), Cls.of (HC.out z)⟩
        · have hP := Lib.hid ((HP2.out rfl).1 ha)
          have b1 : (a0 == (j : Int)) = false := by simp [ha]
          have b2 : (a0 != (j : Int)) = true := by simp [ha]
          clear ha HP1 HP2
          go_wp2_with (go_at_call 34; ((with_reducible refine (Cls.call (C3.out _)).mono ?_); rintro r _ ⟨rfl, y, rfl⟩; obtain ⟨l1, l2, l3, l4, l5⟩ := y.lts h0s; obtain ⟨l6, l7, l8, l9, l10⟩ := y.lts hb2; have ys := y.size))
          refine wp_region_on (by kernel_rfl) (by kernel_rfl) ?_
          repeat (go_big_quiet_step ((go_at_call 35; exact Cls.call (C1.out _ (HC.out _)))))
          refine wpQuiet_nil ?_
          rintro _ ⟨y2, rfl⟩
          go_wp2_with fail
          go_ret
          have hfe : fstE ve 0 sn = 5 := by rw [HE.out, hS.out, fstE_stop (by rw [hP.out]; decide), hP.out]
          exact ⟨ret_int (by rw [HU.out.1 (by rw [hfe]; decide), hfe]), Cls.of (HC.out y2)⟩
    · have hz : Hid (sn - j = 0) := Lib.hid (by omega)
      have hfe : fstE ve 0 sn = 0 := by rw [HE.out, hz.out]; rfl
      have HU2 := Lib.hid (HU.out.2 hfe)
      have HKE := Lib.hid (HKY.out hfe)
      have HO := Lib.hid (HOR.out hfe (by omega))
      clear HU HOR HKY hfe HE hz HFI HTE HNM HIS
      go_wp2_with fail
      have HTW : Hid (∀ j, j < sn → TbAt W0 (tb j)) := Lib.hid fun j hj => (HTB.out j hj).later HB0.out
      have HCO : Hid (∀ j c : Nat, j < sn → c < (tb j).cs.len → ∃ b off, (tb j).cs.a = some ⟨b, off, none⟩ ∧ b < W0.heap.size ∧ W0.cell? ⟨b, off + c * 3 + 1, none⟩ = some (.int .i64 ((tb j).col c).ty)) := Lib.hid fun j c hj hc => by
        obtain ⟨b, off, ha, hb, hcs⟩ := (HTW.out j hj).cols.2.2.2 c hc
        have q1 := hcs 1 (by omega)
        simp only [Cl.cells, List.getElem?_cons_zero, List.getElem?_cons_succ] at q1
        exact ⟨b, off, ha, hb, q1⟩
      have HIN : Hid (∀ j : Nat, j < sn → (∀ i, i < (tb j).ps.len → 0 ≤ (tb j).prim i ∧ (tb j).prim i < (tb j).cs.len) ∧ ∀ k, k < (tb j).fs.len → ∀ i, i < ((tb j).fk k).len → 0 ≤ (tb j).fkn k i ∧ (tb j).fkn k i < (tb j).cs.len) := Lib.hid fun j hj => ⟨keyB_in (keyE_ok (HKE.out j hj)).1, fun k hk => keyB_in ((keyE_ok (HKE.out j hj)).2.2 k hk)⟩
      have HFR := Lib.hid fksB_ref
      clear HKE HTB
      go_loopw [7] (fun i wr => ∃ j : Nat, j ≤ sn ∧ i = .int .i64 j ∧ fstE e0 0 sn = fstE e0 j (sn - j) ∧ Cls W0 wr) (fun i _ => sn - (intOf i).toNat)
      case atStart => exact ⟨0, Nat.zero_le _, rfl, rfl, x, rfl⟩
      case round =>
        clear hj hltj xs x
        obtain ⟨i, hi, rfl, he, x, rfl⟩ := hrel
        have HE := Lib.hid he
        clear he
        have xs := x.size
        by_cases hlti : i < sn
        · obtain ⟨b, off, ha, hb2, q0, q1, q2, q3, q4, q5⟩ := HCW.out i hlti
          subst ha
          obtain ⟨g1, g2, g3, g4, g5⟩ := x.lts h0s
          obtain ⟨g6, g7, g8, g9, g10⟩ := x.lts hb2
          have hS : Hid (sn - i = (sn - (i + 1)) + 1) := Lib.hid (by omega)
          have hT := HTW.out i hlti
          have hfl := hT.fks.1
          have hfm := hT.fks.2.1
          unfold maxLen at hfm
          have HFK : Hid (∀ k, k < (tb i).fs.len → ∃ b off, (tb i).fs.a = some ⟨b, off, none⟩ ∧ b < W0.heap.size ∧ W0.cell? ⟨b, off + k * 2, none⟩ = some (.slice ((tb i).fk k).a ((tb i).fk k).len ((tb i).fk k).cap)) := Lib.hid fun k hk => by
            obtain ⟨b', off', ha, hb, hcs⟩ := (HTW.out i hlti).fks.2.2.2 k hk
            have q0 := hcs 0 (by omega)
            simp only [Sl.v, List.getElem?_cons_zero, Nat.add_zero] at q0
            exact ⟨b', off', ha, hb, q0⟩
          have HE0 := Lib.hid (H0.out i)
          clear hT
          generalize hfs : (tb i).fs = fs at *
          obtain ⟨fa, fn, fc⟩ := fs
          simp only at hfl hfm HFK HE0 q4
          go_wp2_with fail
          go_loopw [8] (fun i' wr => ∃ k : Nat, k ≤ fn ∧ i' = .int .i64 k ∧ fstE (e1 i) 0 fn = fstE (e1 i) k (fn - k) ∧ Cls W0 wr) (fun i' _ => fn - (intOf i').toNat)
          case atStart => exact ⟨0, Nat.zero_le _, rfl, rfl, x, rfl⟩
          case round =>
            clear g1 g2 g3 g4 g5 g6 g7 g8 g9 g10 xs x
            obtain ⟨k, hk, rfl, hf, x, rfl⟩ := hrel
            have HF := Lib.hid hf
            clear hf
            have xs := x.size
            obtain ⟨g1, g2, g3, g4, g5⟩ := x.lts h0s
            obtain ⟨g6, g7, g8, g9, g10⟩ := x.lts hb2
            by_cases hltk : k < fn
            · have hS2 : Hid (fn - k = (fn - (k + 1)) + 1) := Lib.hid (by omega)
              have C1 := Lib.hid (HTG.out i k)
              obtain ⟨hi1, hi2, hi3⟩ := HIT.out i k
              have HI1 := Lib.hid hi1
              have HI2 := Lib.hid hi2
              have HI3 := Lib.hid hi3
              have HL := Lib.hid (HLT.out i k)
              clear hi1 hi2 hi3
              generalize tB i k = bb at C1 HI1 HI2 HI3 HL
              generalize tN i k = tn at C1 HI1 HI2 HI3 HL
              cases bb
              · have hP := Lib.hid (HI1.out rfl)
                go_wp2_with (go_at_call 37; ((with_reducible refine (Cls.call (C1.out _ (HC.out _))).mono ?_); rintro r _ ⟨rfl, y, rfl⟩))
                go_ret
                have hfe : te = 11 := by rw [HX.out, HE.out, hS.out, fstE_stop (by rw [HE0.out, HF.out, hS2.out, fstE_stop (by rw [hP.out]; decide), hP.out]; decide), HE0.out, HF.out, hS2.out, fstE_stop (by rw [hP.out]; decide), hP.out]
                exact ⟨ret_int (by rw [HU2.out.1 (by rw [hfe]; decide), hfe]), Cls.of (HC.out y)⟩
              · have htn := HL.out rfl
                obtain ⟨b', off', ha', _, _, r1, r2, _, _, _⟩ := HCW.out tn htn
                cases ha'
                obtain ⟨bf, off2, hfa, hbf, f1⟩ := HFK.out k hltk
                subst hfa
                have HPS : Hid ((tb tn).ps.len ≤ (tb tn).ps.cap ∧ (tb tn).ps.cap ≤ 2 ^ 63 - 1) := Lib.hid ⟨(HTW.out tn htn).prim.1, by have := (HTW.out tn htn).prim.2.1; unfold maxLen at this; exact this⟩
                have hkf : k < (tb i).fs.len := by rw [hfs]; exact hltk
                have HFS : Hid (((tb i).fk k).len ≤ ((tb i).fk k).cap ∧ ((tb i).fk k).cap ≤ 2 ^ 63 - 1) := Lib.hid ⟨((HTW.out i hlti).fkn k hkf).1.1, by have := ((HTW.out i hlti).fkn k hkf).1.2.1; unfold maxLen at this; exact this⟩
                have HPC : Hid (∀ m, m < (tb tn).ps.len → ∃ b off, (tb tn).ps.a = some ⟨b, off, none⟩ ∧ b < W0.heap.size ∧ W0.cell? ⟨b, off + m, none⟩ = some (.int .i64 ((tb tn).prim m))) := Lib.hid fun m hm => by
                  obtain ⟨b', off', ha, hb, hcs⟩ := (HTW.out tn htn).prim.2.2.2 m hm
                  have q0 := hcs 0 (by omega)
                  simp only [intC, List.getElem?_cons_zero, Nat.add_zero, Nat.mul_one] at q0
                  exact ⟨b', off', ha, hb, q0⟩
                have HFC : Hid (∀ m, m < ((tb i).fk k).len → ∃ b off, ((tb i).fk k).a = some ⟨b, off, none⟩ ∧ b < W0.heap.size ∧ W0.cell? ⟨b, off + m, none⟩ = some (.int .i64 ((tb i).fkn k m))) := Lib.hid fun m hm => by
                  obtain ⟨b', off', ha, hb, hcs⟩ := ((HTW.out i hlti).fkn k hkf).1.2.2.2 m hm
                  have q0 := hcs 0 (by omega)
                  simp only [intC, List.getElem?_cons_zero, Nat.add_zero, Nat.mul_one] at q0
                  exact ⟨b', off', ha, hb, q0⟩
                have HINF := Lib.hid ((HIN.out i hlti).2 k hkf)
                have HINP := Lib.hid ((HIN.out tn htn).1)
                have HCI := Lib.hid (fun c => HCO.out i c hlti)
                have HCT := Lib.hid (fun c => HCO.out tn c htn)
                have HCL : Hid ((tb i).cs.len ≤ (tb i).cs.cap ∧ (tb i).cs.cap ≤ 2 ^ 63 - 1 ∧ (tb tn).cs.len ≤ (tb tn).cs.cap ∧ (tb tn).cs.cap ≤ 2 ^ 63 - 1) := Lib.hid ⟨(HTW.out i hlti).cols.1, by have := (HTW.out i hlti).cols.2.1; unfold maxLen at this; exact this, (HTW.out tn htn).cols.1, by have := (HTW.out tn htn).cols.2.1; unfold maxLen at this; exact this⟩
                obtain ⟨hr1, hr2⟩ := HFR.out (tb i) (tb tn) ((tb i).fkn k) (tb tn).prim ((tb i).fk k).len (tb tn).ps.len
                have HR1 := Lib.hid hr1
                have HR2 := Lib.hid hr2
                clear hr1 hr2
                have HFP : Hid (∀ m, fksP (tb i) (tb tn) ((tb i).fkn k) (tb tn).prim m = !(((tb i).col ((tb i).fkn k m).toNat).ty == ((tb tn).col ((tb tn).prim m).toNat).ty)) := Lib.hid fun m => rfl
                generalize fksB (tb i) (tb tn) ((tb i).fkn k) (tb tn).prim ((tb i).fk k).len (tb tn).ps.len = fb at HI2 HI3 HR1 HR2
                generalize fksP (tb i) (tb tn) ((tb i).fkn k) (tb tn).prim = fp at HR2 HFP
                generalize (tb tn).ps = pz at *
                generalize (tb i).fk k = fz at *
                generalize (tb i).cs = cz at *
                generalize (tb tn).cs = dz at *
                generalize (tb tn).prim = pr at *
                generalize (tb i).fkn k = fkk at *
                obtain ⟨pa, pn, pc⟩ := pz
                obtain ⟨fza, fzn, fzc⟩ := fz
                obtain ⟨ca, cn, cc⟩ := cz
                obtain ⟨da, dn, dc⟩ := dz
                simp only at HPS HFS HPC HFC HINF HINP HCI HCT HCL HR1 HR2 f1 q1 r1 r2
                obtain ⟨hp1, hp2⟩ := HPS.out
                obtain ⟨hz1, hz2⟩ := HFS.out
                obtain ⟨hc1, hc2, hc3, hc4⟩ := HCL.out
                obtain ⟨g11, g12, g13, g14, g15⟩ := x.lts hbf
                have H11 : Hid (fb = false → vv = 6) := Lib.hid fun hfb => by
                  have hP := HI3.out rfl hfb
                  have hfe : te = 6 := by rw [HX.out, HE.out, hS.out, fstE_stop (by rw [HE0.out, HF.out, hS2.out, fstE_stop (by rw [hP]; decide), hP]; decide), HE0.out, HF.out, hS2.out, fstE_stop (by rw [hP]; decide), hP]
                  rw [HU2.out.1 (by rw [hfe]; decide), hfe]
                have H00 : Hid (fb = true → fstE (e1 i) 0 fn = fstE (e1 i) (k + 1) (fn - (k + 1))) := Lib.hid fun hfb => by
                  rw [HF.out, hS2.out, fstE_go (HI2.out rfl hfb)]
                clear HI1 HI2 HI3
                by_cases hnm : fzn = pn
                · subst hnm
                  have HQ := Lib.hid (HR2.out rfl)
                  clear HR1 HR2
                  have d1 : ((fzn : Int) == (fzn : Int)) = true := by simp
                  have d2 : ((fzn : Int) != (fzn : Int)) = false := by simp
                  go_wp2_with (go_at_call 37; ((with_reducible refine (Cls.call (C1.out _ (HC.out _))).mono ?_); rintro r _ ⟨rfl, y, rfl⟩; obtain ⟨l1, l2, l3, l4, l5⟩ := y.lts h0s; obtain ⟨l6, l7, l8, l9, l10⟩ := y.lts hb2; obtain ⟨l11, l12, l13, l14, l15⟩ := y.lts hbf; have ys := y.size))
                  refine wp_region_on (by kernel_rfl) (by kernel_rfl) ?_
                  repeat (go_big_quiet_step (fail))
                  refine wpQuiet_nil ?_
                  rintro _ ⟨y2, rfl⟩
                  go_wp2_with fail
                  go_loopw [13] (fun i' wr => ∃ m : Nat, m ≤ fzn ∧ i' = .int .i64 m ∧ idx fp 0 fzn = idx fp m (fzn - m) ∧ Cls W0 wr) (fun i' _ => fzn - (intOf i').toNat)
                  case atStart => exact ⟨0, Nat.zero_le _, rfl, rfl, y2, rfl⟩
                  case round =>
                    clear l1 l2 l3 l4 l5 l6 l7 l8 l9 l10 l11 l12 l13 l14 l15 ys g1 g2 g3 g4 g5 g6 g7 g8 g9 g10 g11 g12 g13 g14 g15 y2 y xs x
                    obtain ⟨m, hm, rfl, hq, x, rfl⟩ := hrel
                    have HI := Lib.hid hq
                    clear hq
                    have xs := x.size
                    obtain ⟨g1, g2, g3, g4, g5⟩ := x.lts h0s
                    obtain ⟨g6, g7, g8, g9, g10⟩ := x.lts hb2
                    by_cases hltm : m < fzn
                    · obtain ⟨bz, oz, hza, hbz, z1⟩ := HFC.out m hltm
                      obtain ⟨bp, op, hpa, hbp, p1⟩ := HPC.out m hltm
                      subst hza hpa
                      obtain ⟨hi0, hi1⟩ := HINF.out m hltm
                      obtain ⟨hi2, hi3⟩ := HINP.out m hltm
                      have hEE := HFP.out m
                      have hS3 : Hid (fzn - m = (fzn - (m + 1)) + 1) := Lib.hid (by omega)
                      generalize fkk m = cv at z1 hi0 hi1 hEE
                      generalize pr m = dv at p1 hi2 hi3 hEE
                      obtain ⟨c, rfl⟩ : ∃ c : Nat, cv = c := ⟨cv.toNat, by omega⟩
                      obtain ⟨d, rfl⟩ : ∃ d : Nat, dv = d := ⟨dv.toNat, by omega⟩
                      have hcn : c < cn := by omega
                      have hdn : d < dn := by omega
                      clear hi0 hi1 hi2 hi3
                      obtain ⟨bc, oc, hca, hbc, c1⟩ := HCI.out c hcn
                      obtain ⟨bd, od, hda, hbd, e1'⟩ := HCT.out d hdn
                      subst hca hda
                      simp only [Int.toNat_natCast] at hEE
                      have HP := Lib.hid hEE
                      clear hEE
                      generalize ((tb i).col c).ty = t1 at HP c1
                      generalize ((tb tn).col d).ty = t2 at HP e1'
                      obtain ⟨g16, g17, g18, g19, g20⟩ := x.lts hbz
                      obtain ⟨g21, g22, g23, g24, g25⟩ := x.lts hbp
                      obtain ⟨g26, g27, g28, g29, g30⟩ := x.lts hbc
                      obtain ⟨g31, g32, g33, g34, g35⟩ := x.lts hbd
                      by_cases ht : t1 = t2
                      · have b1 : (t1 == t2) = true := by simp [ht]
                        have b2 : (t1 != t2) = false := by simp [ht]
                        have hP : Hid (fp m = false) := Lib.hid (by rw [HP.out, b1]; rfl)
                        clear ht HP
                        go_wp2_with fail
                        refine wp_region_on (by kernel_rfl) (by kernel_rfl) ?_
                        repeat (go_big_quiet_step (fail))
                        refine wpQuiet_nil ?_
                        rintro _ ⟨y, rfl⟩
                        go_wp2_with fail
                        go_roundw
                        case rel => exact ⟨m + 1, by omega, by go_num, by rw [HI.out, hS3.out, idx_go hP.out], y, rfl⟩
                        case measure => simp [intOf]; omega
                      · have b1 : (t1 == t2) = false := by simp [ht]
                        have b2 : (t1 != t2) = true := by simp [ht]
                        have hP : Hid (fp m = true) := Lib.hid (by rw [HP.out, b1]; rfl)
                        clear ht HP
                        go_wp2_with fail
                        refine wp_region_on (by kernel_rfl) (by kernel_rfl) ?_
                        repeat (go_big_quiet_step (fail))
                        refine wpQuiet_nil ?_
                        rintro _ ⟨y, rfl⟩
                        go_wp2_with fail
                        have hfb : fb = false := by
                          rw [HQ.out, HI.out, hS3.out, idx_stop hP.out]
                          simp
                        have hvv := H11.out hfb
                        go_ret
                        exact ⟨ret_int (by rw [hvv]), Cls.of (HC.out y)⟩
                    · have hz : Hid (fzn - m = 0) := Lib.hid (by omega)
                      have hfb : fb = true := by
                        rw [HQ.out, HI.out, hz.out]
                        rfl
                      have HK := Lib.hid (H00.out hfb)
                      clear hfb
                      go_wp2_with fail
                      go_roundw
                      case rel => exact ⟨k + 1, by omega, by go_num, HK.out, x, rfl⟩
                      case measure => simp [intOf]; omega
                · have HQ := Lib.hid (HR1.out hnm)
                  have d1 : ((fzn : Int) == (pn : Int)) = false := by simp; omega
                  have d2 : ((fzn : Int) != (pn : Int)) = true := by simp; omega
                  go_wp2_with (go_at_call 37; ((with_reducible refine (Cls.call (C1.out _ (HC.out _))).mono ?_); rintro r _ ⟨rfl, y, rfl⟩; obtain ⟨l1, l2, l3, l4, l5⟩ := y.lts h0s; obtain ⟨l6, l7, l8, l9, l10⟩ := y.lts hb2; obtain ⟨l11, l12, l13, l14, l15⟩ := y.lts hbf; have ys := y.size))
                  refine wp_region_on (by kernel_rfl) (by kernel_rfl) ?_
                  repeat (go_big_quiet_step (fail))
                  refine wpQuiet_nil ?_
                  rintro _ ⟨y2, rfl⟩
                  go_wp2_with fail
                  go_ret
                  have hvv := H11.out HQ.out
                  exact ⟨ret_int (by rw [hvv]), Cls.of (HC.out y2)⟩
            · have hz : Hid (fn - k = 0) := Lib.hid (by omega)
              go_wp2_with fail
              go_roundw
              case rel => exact ⟨i + 1, by omega, by go_num, by rw [HE.out, hS.out, fstE_go (by rw [HE0.out, HF.out, hz.out]; rfl)], x, rfl⟩
              case measure => simp [intOf]; omega
        · have hz : Hid (sn - i = 0) := Lib.hid (by omega)
          have hte : te = 0 := by rw [HX.out, HE.out, hz.out]; rfl
          have HG := Lib.hid (HOF.out (HAL.out hte))
          have HN := Lib.hid (HU2.out.2 hte)
          clear HOF HAL HU2
          go_wp2_with (go_at_call 38; ((with_reducible refine (HO.out _ (HC.out _)).mono ?_); intro r w' hor; obtain ⟨oa, on_, oc, oe, rfl, ⟨y, rfl⟩, ho1, ho2⟩ := HG.out _ _ _ hor))
          have hv : oe = vv := by
            rcases Nat.lt_or_ge ol sn with hl | hl
            · rw [ho1 hl, HN.out.1 hl]
            · have he := Nat.le_antisymm HOL.out hl
              rw [ho2 he, HN.out.2 he]
          have hyb := (HC.out x).trans (y.below.mono (HC.out x).size)
          go_ret
          exact ⟨ret_int (by rw [hv]), Cls.of hyb⟩
end Go.Proofs.YtdmhmlnfoocnjaaGreatDoor
