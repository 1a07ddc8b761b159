/-
  Rows with the key of an earlier row.
-/
import Derived.Test.YtdmhmlnfoocnjaaGreatDoorK36
import Derived.Test.YtdmhmlnfoocnjaaGreatDoorK38
import Derived.Test.YtdmhmlnfoocnjaaGreatDoorK39
set_option linter.unusedVariables false
namespace Go.Proofs.YtdmhmlnfoocnjaaGreatDoor
open Go Go.RowKit Go.Deep Go.Maps
structure LatB (T : Nat) (w : World) where
  val : World
  tp : Tp T w val
instance (T : Nat) (w : World) : Nonempty (LatB T w) := ⟨⟨w, Tp.refl _ _⟩⟩
@[go_sem] theorem LatB.cell {T : Nat} {w : World} (x : LatB T w) {b : Nat} (o : Nat) (h : b < w.heap.size) (hT : b ≠ T) : x.val.cell? ⟨b, o, none⟩ = w.cell? ⟨b, o, none⟩ := x.tp.cell o h hT
@[go_sem] theorem LatB.frozen {T : Nat} {w : World} (x : LatB T w) {b : Nat} (o : Nat) (h : b < w.heap.size) (hT : b ≠ T) : x.val.frozen? ⟨b, o, none⟩ = w.frozen? ⟨b, o, none⟩ := x.tp.frozen o h hT
theorem five_z {W : World} {b : Nat} {a0 a1 a2 a3 a4 : Value} {t : TypeId} (h : W.heap[b]? = some (.cells #[a0, a1, a2, a3, a4] t)) :
    b < W.heap.size ∧ W.frozen? ⟨b, 0, none⟩ = false ∧ W.frozen? ⟨b, 1, none⟩ = false ∧ W.frozen? ⟨b, 2, none⟩ = false ∧ W.frozen? ⟨b, 3, none⟩ = false ∧ W.frozen? ⟨b, 4, none⟩ = false ∧
    W.cell? ⟨b, 0, none⟩ = some a0 ∧ W.cell? ⟨b, 1, none⟩ = some a1 ∧ W.cell? ⟨b, 2, none⟩ = some a2 ∧ W.cell? ⟨b, 3, none⟩ = some a3 ∧ W.cell? ⟨b, 4, none⟩ = some a4 := by
  refine ⟨(Array.getElem?_eq_some_iff.1 h).1, free_z h _, free_z h _, free_z h _, free_z h _, free_z h _, ?_, ?_, ?_, ?_, ?_⟩
  all_goals
    rw [cell_of_row _ _ _ _ _ (0, 0) h]
    rfl
section
variable {o : Oper} {a : Act} {C : World → Prop} {K : Act → Prop}
theorem quiet_loadK (x : Operand) (ho : o.op = .load 151 x) {c : Nat} {l : List Vl} (hl : FineK c l) (b : Nat) (hx : a.eval x = .pointer (some ⟨b, 0, none⟩)) (hb : ∀ w, C w → w.heap[b]? = some (.cells (flatK (padK l)).toArray 151))
    (hk : K (a.put o.dst (keyV l))) : o.quiet Tryz.prog a C K := by
  refine ⟨keyV l, fun w hw => ?_, hk⟩
  have hrun : (Instr.loadAt 151 (.pointer (some ⟨b, 0, none⟩))).run Tryz.prog w = .ok (keyV l) w := run_loadAt_mid w b 0 151 (flatK (padK l)) _ (fun j v hv => by
    rw [cell_of_row _ _ _ _ _ (0, 0) (hb w hw), Nat.zero_add]
    simpa using hv) Tryz.underlying151 rfl (by rw [flatP_len hl]; exact infoK)
  unfold Oper.quietAt execOp
  simp only [ho, hx, Sem.run_bind, Sem.run_pure, hrun, Result.andThen_ok]
  exact ⟨rfl, rfl⟩
theorem quiet_lookK (m x : Operand) (ho : o.op = .lookup 132 m x false) {c n : Nat} {l : List Vl} (hl : FineK c l) (b : Nat) (hm : a.eval m = .map (some b)) (hx : a.eval x = keyV l) {F : List Vl → Int} (hf : ∀ w, C w → FirstIs w b n c F)
    (hk : K (a.put o.dst (.int .i64 (at0 (F l))))) : o.quiet Tryz.prog a C K := by
  refine ⟨.int .i64 (at0 (F l)), fun w hw => ?_, hk⟩
  have hrun := (hf w hw).look hl
  unfold Oper.quietAt execOp
  simp only [ho, hm, hx, Sem.run_bind, Sem.run_pure, hrun, Result.andThen_ok]
  exact ⟨rfl, rfl⟩
end
theorem at_first {c j n : Nat} {g : Nat → Int} {f : Nat → Nat → Vl} (hj : j < n) : (0 ≤ idx (firstP g c f (keyW g c (f j))) 0 j → at0 (idx (firstP g c f (keyW g c (f j))) 0 n) = idx (firstP g c f (keyW g c (f j))) 0 j ∧ idx (firstP g c f (keyW g c (f j))) 0 j < j) ∧ (idx (firstP g c f (keyW g c (f j))) 0 j < 0 → at0 (idx (firstP g c f (keyW g c (f j))) 0 n) = j) := by
  obtain ⟨h1, h2⟩ := idx_upto (p := firstP g c f (keyW g c (f j))) hj (sameL_iff.2 rfl)
  have hb := idx_bd (firstP g c f (keyW g c (f j))) j 0
  refine ⟨fun h => ?_, fun h => ?_⟩
  · rw [h1 h]
    unfold at0
    rw [if_neg (by omega)]
    exact ⟨rfl, by omega⟩
  · rw [h2 h]
    unfold at0
    rw [if_neg (by omega)]
set_option maxHeartbeats 16000000 in
set_option maxRecDepth 20000 in
theorem repeated_calls (t : Tb) (s cs : Sl) (iv : Value) (fit : Bool) (kd ix : Int) (r : Nat → Sl) (f : Nat → Nat → Vl) (g : Nat → Int) (w : World) (hr : RwsAt w s r f) (hc : SlAt w 1 cs (intC g)) (hin : ∀ n, n < s.len → ∀ i, i < cs.len → 0 ≤ g i ∧ g i < (r n).len) (h8 : cs.len ≤ 8) (hs : s.len ≤ 10000) (hiv : iv.oneCell' = true) :
    Calls Tryz.prog 84 #[.agg #[.string t.name, .slice t.cs.a t.cs.len t.cs.cap, .slice t.ps.a t.ps.len t.ps.cap, .slice t.us.a t.us.len t.us.cap, .slice t.fs.a t.fs.len t.fs.cap, .slice t.ks.a t.ks.len t.ks.cap, .slice s.a s.len s.cap, iv, .bool fit], .slice cs.a cs.len cs.cap, .agg #[.int .i64 kd, .int .i64 0, .int .i64 ix, .int .i64 0, .int .i64 0]] w fun e w' => ∃ v, e = .returned v ∧ OwnO w' (w.heap.size + 2) v (repsO kd ix g cs.len f s.len) ∧ Cls w w' := by
  have hle := hr.rows.1
  have hmax := hr.rows.2.1
  unfold maxLen at hmax
  have HRW := Lib.hid hr.rows.2.2.2
  have C1 : Hid (∀ j, j < s.len → ∀ W, Below w.heap.size w W → Calls Tryz.prog 116 #[.slice (r j).a (r j).len (r j).cap, .slice cs.a cs.len cs.cap] W fun e w' => e = .returned (.tuple #[keyV (keyW g cs.len (f j)), .bool (!nulL (keyW g cs.len (f j)))]) ∧ Cls W w') := Lib.hid fun j hj W hW => keyOf_calls (r j) cs (f j) g W ((hr.vals j hj).later hW) (hc.later hW) (hin j hj) h8
  have C2 : Hid (∀ W, Below w.heap.size w W → Calls Tryz.prog 85 #[.slice s.a s.len s.cap, .slice cs.a cs.len cs.cap] W fun e w' => ∃ B, e = .returned (.map (some B)) ∧ FirstIs w' B s.len cs.len (fun l => idx (firstP g cs.len f l) 0 s.len) ∧ Cls W w') := Lib.hid fun W hW => firstRows_calls s cs r f g W (hr.later hW) (hc.later hW) hin h8 hs
  have HFK : Hid (∀ j, j < s.len → FineK cs.len (keyW g cs.len (f j))) := Lib.hid fun j hj => fineK_row hr hj h8 (hin j hj)
  have HAF : Hid (∀ j, j < s.len → (0 ≤ idx (firstP g cs.len f (keyW g cs.len (f j))) 0 j → at0 (idx (firstP g cs.len f (keyW g cs.len (f j))) 0 s.len) = idx (firstP g cs.len f (keyW g cs.len (f j))) 0 j ∧ idx (firstP g cs.len f (keyW g cs.len (f j))) 0 j < j) ∧ (idx (firstP g cs.len f (keyW g cs.len (f j))) 0 j < 0 → at0 (idx (firstP g cs.len f (keyW g cs.len (f j))) 0 s.len) = j)) := Lib.hid fun j hj => at_first hj
  have HRO := Lib.hid (repO_is kd ix g cs.len f)
  have HLN : Hid (∀ j, (repsO kd ix g cs.len f j).length ≤ j) := Lib.hid fun j => repsO_len kd ix g cs.len f j
  have HR0 : Hid (repsO kd ix g cs.len f 0 = []) := Lib.hid rfl
  have HRN : Hid (∀ j, repsO kd ix g cs.len f (j + 1) = repsO kd ix g cs.len f j ++ repO kd ix g cs.len f j) := Lib.hid fun j => rfl
  clear hr hc hin
  generalize repsO kd ix g cs.len f = rs at *
  generalize repO kd ix g cs.len f = ro at *
  generalize hF : (fun l => idx (firstP g cs.len f l) 0 s.len) = F at *
  have hF2 : ∀ l, idx (firstP g cs.len f l) 0 s.len = F l := fun l => by rw [← hF]
  simp only [hF2] at HAF
  clear hF2 hF
  generalize hM : (fun j => idx (firstP g cs.len f (keyW g cs.len (f j))) 0 j) = mm at *
  have hM2 : ∀ j, idx (firstP g cs.len f (keyW g cs.len (f j))) 0 j = mm j := fun j => by rw [← hM]
  simp only [hM2] at HAF HRO
  clear hM2 hM
  generalize hK : (fun j => keyW g cs.len (f j)) = kw at *
  have hK2 : ∀ j, keyW g cs.len (f j) = kw j := fun j => by rw [← hK]
  simp only [hK2] at C1 HFK HAF HRO
  clear hK2 hK
  obtain ⟨tn, ⟨ca, cn, cc⟩, tf, tps, tprim, tus, tuq, tuqn, tfs, tfk, tfkn, tfkt, tks, tch⟩ := t
  obtain ⟨sa, sn, sc⟩ := s
  obtain ⟨csa, c, csc⟩ := cs
  simp only at hle hmax HRW C1 C2 HFK HAF h8 hs ⊢
  go_enter Tryz.func84, Tryz.ntmps84
  have hbl1 : ((w.alloc (.cells #[.string tn, .slice ca cn cc, .slice tps.a tps.len tps.cap, .slice tus.a tus.len tus.cap, .slice tfs.a tfs.len tfs.cap, .slice tks.a tks.len tks.cap, .slice sa sn sc, iv, .bool fit] 98)).alloc (.cells #[.int .i64 kd, .int .i64 0, .int .i64 ix, .int .i64 0, .int .i64 0] 74)).heap[w.heap.size]? = some (.cells #[.string tn, .slice ca cn cc, .slice tps.a tps.len tps.cap, .slice tus.a tus.len tus.cap, .slice tfs.a tfs.len tfs.cap, .slice tks.a tks.len tks.cap, .slice sa sn sc, iv, .bool fit] 98) := by
    rw [(((Below.refl _ _).alloc (Nat.le_refl _) _) : Below (w.alloc (.cells #[.string tn, .slice ca cn cc, .slice tps.a tps.len tps.cap, .slice tus.a tus.len tus.cap, .slice tfs.a tfs.len tfs.cap, .slice tks.a tks.len tks.cap, .slice sa sn sc, iv, .bool fit] 98)).heap.size (w.alloc (.cells #[.string tn, .slice ca cn cc, .slice tps.a tps.len tps.cap, .slice tus.a tus.len tus.cap, .slice tfs.a tfs.len tfs.cap, .slice tks.a tks.len tks.cap, .slice sa sn sc, iv, .bool fit] 98)) ((w.alloc (.cells #[.string tn, .slice ca cn cc, .slice tps.a tps.len tps.cap, .slice tus.a tus.len tus.cap, .slice tfs.a tfs.len tfs.cap, .slice tks.a tks.len tks.cap, .slice sa sn sc, iv, .bool fit] 98)).alloc (.cells #[.int .i64 kd, .int .i64 0, .int .i64 ix, .int .i64 0, .int .i64 0] 74))).block w.heap.size (by simp)]
    exact heap_alloc_new w _
  have hbl2 : ((w.alloc (.cells #[.string tn, .slice ca cn cc, .slice tps.a tps.len tps.cap, .slice tus.a tus.len tus.cap, .slice tfs.a tfs.len tfs.cap, .slice tks.a tks.len tks.cap, .slice sa sn sc, iv, .bool fit] 98)).alloc (.cells #[.int .i64 kd, .int .i64 0, .int .i64 ix, .int .i64 0, .int .i64 0] 74)).heap[w.heap.size + 1]? = some (.cells #[.int .i64 kd, .int .i64 0, .int .i64 ix, .int .i64 0, .int .i64 0] 74) := by
    have := heap_alloc_new (w.alloc (.cells #[.string tn, .slice ca cn cc, .slice tps.a tps.len tps.cap, .slice tus.a tus.len tus.cap, .slice tfs.a tfs.len tfs.cap, .slice tks.a tks.len tks.cap, .slice sa sn sc, iv, .bool fit] 98)) (.cells #[.int .i64 kd, .int .i64 0, .int .i64 ix, .int .i64 0, .int .i64 0] 74)
    simpa using this
  have HBL1 := Lib.hid hbl1
  have HBL2 := Lib.hid hbl2
  have HB0 : Hid (Below w.heap.size w ((w.alloc (.cells #[.string tn, .slice ca cn cc, .slice tps.a tps.len tps.cap, .slice tus.a tus.len tus.cap, .slice tfs.a tfs.len tfs.cap, .slice tks.a tks.len tks.cap, .slice sa sn sc, iv, .bool fit] 98)).alloc (.cells #[.int .i64 kd, .int .i64 0, .int .i64 ix, .int .i64 0, .int .i64 0] 74))) := Lib.hid (by repeat first|with_reducible exact Below.refl _ _|with_reducible refine Below.setCell ?_ (by first|omega|(simp;done)|(simp;omega)) _|with_reducible refine Below.alloc ?_ (by first|omega|(simp;done)|(simp;omega)) _|with_reducible refine Below.drew ?_|with_reducible refine Ext.on _ ?_ (by first|omega|(simp;done)|(simp;omega)))
  have h0s : ((w.alloc (.cells #[.string tn, .slice ca cn cc, .slice tps.a tps.len tps.cap, .slice tus.a tus.len tus.cap, .slice tfs.a tfs.len tfs.cap, .slice tks.a tks.len tks.cap, .slice sa sn sc, iv, .bool fit] 98)).alloc (.cells #[.int .i64 kd, .int .i64 0, .int .i64 ix, .int .i64 0, .int .i64 0] 74)).heap.size = w.heap.size + 2 := by simp
  clear hbl1 hbl2
  go_wp2_with (go_at_call 85; ((with_reducible refine (C2.out _ HB0.out).mono ?_); rintro e w1 ⟨B, rfl, hfi, y, rfl⟩; have HI := Lib.hid hfi; clear hfi; have ys := y.size; have HXB := Lib.hid ((y.below.block _ (by omega)).trans HBL1.out); have HVB := Lib.hid ((y.below.block _ (by omega)).trans HBL2.out); have HW := Lib.hid (y.on HB0.out (by omega)); obtain ⟨b0, _, _, _, _, _, _, _, _, _, n0, n1, n2, n3, n4, n5, n6, n7, n8⟩ := nine_z HXB.out))
  clear HBL1 HBL2 HB0 C2 b0 n0 n1 n2 n3 n4 n5 n6 n7 n8
  have hys : w.heap.size + 2 ≤ y.val.heap.size := by omega
  clear ys h0s
  generalize y.val = Y0 at *
  go_loopw [7, 20] (fun u i wr => ∃ (j : Nat) (l : List Vio) (vx vy : Int), j ≤ sn ∧ i = .int .i64 j ∧ OwnO wr (w.heap.size + 2) u l ∧ l = rs j ∧ wr.heap[w.heap.size + 1]? = some (.cells #[.int .i64 kd, .int .i64 0, .int .i64 ix, .int .i64 vx, .int .i64 vy] 74) ∧ FirstIs wr B sn c F ∧ Below w.heap.size w wr) (fun _ i _ => sn - (intOf i).toNat)
  case atStart => exact ⟨0, [], 0, 0, Nat.zero_le _, rfl, OwnO.nil _ _, HR0.out.symm, HVB.out, HI.out, HW.out⟩
  case round =>
    obtain ⟨j, l, vx, vy, hj, rfl, ho, hl, hvb, hfi, hbw⟩ := hrel
    have HO := Lib.hid ho
    have HL := Lib.hid hl
    have hln : l.length ≤ 10000 := by have := HLN.out j; rw [hl]; omega
    clear HVB HXB HI HW
    have HVB := Lib.hid hvb
    have HI := Lib.hid hfi
    have HW := Lib.hid hbw
    have hw2 : w.heap.size + 1 < wr.heap.size := (Array.getElem?_eq_some_iff.1 hvb).1
    clear ho hl hvb hfi hbw
    by_cases hlt : j < sn
    · obtain ⟨b, off, ha, hb, hcc⟩ := HRW.out j hlt
      subst ha
      have q0 := hcc 0 (by omega)
      simp only [Sl.v, List.getElem?_cons_zero, Nat.add_zero, Nat.mul_one] at q0
      rw [← HW.out.cell (p := ⟨b, _, none⟩) hb] at q0
      have hb2 : b < wr.heap.size := by omega
      obtain ⟨b1, _, _, _, _, _, n9, n10, n11, n12, n13⟩ := five_z HVB.out
      have D1 := Lib.hid (C1.out j hlt)
      have HFJ := Lib.hid (HFK.out j hlt)
      obtain ⟨ha1, ha2⟩ := HAF.out j hlt
      have HA1 := Lib.hid ha1
      have HA2 := Lib.hid ha2
      obtain ⟨hr1, hr2⟩ := HRO.out j
      have HR1 := Lib.hid hr1
      have HR2 := Lib.hid hr2
      have HNX := Lib.hid (HRN.out j)
      clear hcc C1 HFK HAF HRO HRN HRW ha1 ha2 hr1 hr2 HR0 HLN
      generalize r j = u at *
      generalize hkj : kw j = L at *
      generalize mm j = m at *
      obtain ⟨ua, un, uc⟩ := u
      simp only at q0 D1
      obtain ⟨q, hq⟩ : ∃ q, at0 (F L) = q := ⟨_, rfl⟩
      have HQ := Lib.hid hq
      rw [hq] at HA1 HA2
      clear hq hkj
      by_cases hm : 0 ≤ m
      · obtain ⟨hqm, hqj⟩ := HA1.out hm
        have hdm : decide (0 ≤ m) = true := by simpa using hm
        subst hqm
        have hqd : decide (q < (j : Int)) = true := by simpa using hqj
        cases hnl : nulL L
        · have HN : Hid (l ++ [⟨kd, 0, ix, (j : Nat), q⟩] = rs (j + 1)) := Lib.hid (by rw [HNX.out, HR1.out (by rw [hnl, hdm]; simp), HL.out])
          rw [hnl] at D1
          clear hdm HA1 HA2 HR1 HR2
          go_wp2_with (first | (go_at_call 116; ((with_reducible refine (D1.out _ HW.out).mono ?_); rintro e _ ⟨rfl, y, rfl⟩; have ys := y.size; obtain ⟨l1, l2, l3, l4, l5⟩ := y.lts b1)) | (refine wpList_newK y.val rfl _ _ rfl HFJ.out rfl rfl ?_) | (refine wpList_loadK rfl _ rfl HFJ.out y.val.heap.size rfl (heap_alloc_new _ _) ?_; have HLK := ((HI.out.later y.below).later ((Below.refl _ _).alloc (Nat.le_refl _) (.cells (flatK (padK L)).toArray 151))).look HFJ.out; rw [HQ.out] at HLK))
          have HIZ := Lib.hid ((HI.out.later y.below).later ((Below.refl _ _).alloc (Nat.le_refl _) (.cells (flatK (padK L)).toArray 151)))
          have HKB := Lib.hid (heap_alloc_new y.val (.cells (flatK (padK L)).toArray 151))
          have HVZ : Hid ((y.val.alloc (.cells (flatK (padK L)).toArray 151)).heap[w.heap.size + 1]? = some (.cells #[.int .i64 kd, .int .i64 0, .int .i64 ix, .int .i64 vx, .int .i64 vy] 74)) := Lib.hid (by rw [Below.heap_alloc _ _ _ (by omega), y.below.block _ (by omega)]; exact HVB.out)
          have HWZ : Hid (Below w.heap.size w (y.val.alloc (.cells (flatK (padK L)).toArray 151))) := Lib.hid ((y.on HW.out (by omega)).alloc (by omega) _)
          have HOZ : Hid (OwnO (y.val.alloc (.cells (flatK (padK L)).toArray 151)) (w.heap.size + 2) u7 l) := Lib.hid (HO.out.later ((y.below).alloc (by omega) _))
          have hkz : y.val.heap.size < (y.val.alloc (.cells (flatK (padK L)).toArray 151)).heap.size := by simp
          have hky : w.heap.size + 2 ≤ y.val.heap.size := by omega
          clear HLK HI HVB HW HO ys l1 l2 l3 l4 l5
          generalize y.val.heap.size = kb at *
          generalize (y.val.alloc (.cells (flatK (padK L)).toArray 151)) = Z at *
          have hBv : B ≠ w.heap.size + 1 := by
            rintro rfl
            obtain ⟨D, ⟨es, clock, hb, _⟩, _⟩ := HIZ.out
            rw [HVZ.out] at hb
            cases hb
          refine LM.wp_region_lin_in (C := fun w' => ∃ y : LatB (w.heap.size + 1) Z, w' = y.val) (fun x => ⟨⟨x.val, (Tp.refl _ _).ext x⟩, rfl⟩) (by kernel_rfl) (by kernel_rfl) ?_
          intro x0
          have x0s := x0.size
          have HVX := Lib.hid ((x0.below.block _ (by omega)).trans HVZ.out)
          obtain ⟨v0, vf0, vf1, vf2, vf3, vf4, vc0, vc1, vc2, vc3, vc4⟩ := five_z HVX.out
          repeat (refine LM.lin_calm rfl ?_; intro KK hKK; (first | (refine BigFrame.wpQuiet_want rfl ?_; intro K2 hK2; refine quiet_loadK _ rfl HFJ.out kb rfl (fun W hW => by obtain ⟨yy, rfl⟩ := hW; rw [yy.tp.block _ hkz (by omega)]; exact HKB.out) ?_; refine hK2 _ ?_; clear hK2 K2; simp only [Act.put, List.setIfInBounds_toArray, List.set_cons_succ, List.set_cons_zero]) | (refine BigFrame.wpQuiet_want rfl ?_; intro K2 hK2; refine quiet_lookK _ _ rfl HFJ.out B rfl rfl (fun W hW => by obtain ⟨yy, rfl⟩ := hW; exact HIZ.out.same (yy.tp.block _ HIZ.out.lt hBv)) ?_; rw [HQ.out]; refine hK2 _ ?_; clear hK2 K2; simp only [Act.put, List.setIfInBounds_toArray, List.set_cons_succ, List.set_cons_zero]) | (go_big_quiet_step (fail))); refine wpQuiet_nil ?_; refine hKK _ ?_; clear hKK KK)
          refine LM.lin_free rfl ?_
          intro KK hKK
          go_wp2_with fail
          refine hKK _ _ (.inr ⟨⟨x0.val.setCell ⟨w.heap.size + 1, 3, none⟩ (.int .i64 (j : Nat)), Tp.setCell (p := ⟨w.heap.size + 1, 3, none⟩) ((Tp.refl _ _).ext x0) (.inr rfl) _⟩, rfl⟩) ?_
          clear hKK KK
          repeat (refine LM.lin_calm rfl ?_; intro KK hKK; (go_big_quiet_step (fail)); refine wpQuiet_nil ?_; refine hKK _ ?_; clear hKK KK)
          refine LM.lin_free rfl ?_
          intro KK hKK
          go_wp2_with fail
          refine hKK _ _ (.inl trivial) ?_
          clear hKK KK
          refine LM.lin_nil ?_
          have HVW : Hid (((x0.val.setCell ⟨w.heap.size + 1, 3, none⟩ (.int .i64 (j : Nat))).setCell ⟨w.heap.size + 1, 4, none⟩ (.int .i64 q)).heap[w.heap.size + 1]? = some (.cells #[.int .i64 kd, .int .i64 0, .int .i64 ix, .int .i64 (j : Nat), .int .i64 q] 74)) := Lib.hid (by
            have h1 := heap_setCell_same x0.val (w.heap.size + 1) 3 _ _ (.int .i64 (j : Nat)) HVX.out
            have h2 := heap_setCell_same _ (w.heap.size + 1) 4 _ _ (.int .i64 q) h1
            exact h2)
          have HWW : Hid (Below w.heap.size w ((x0.val.setCell ⟨w.heap.size + 1, 3, none⟩ (.int .i64 (j : Nat))).setCell ⟨w.heap.size + 1, 4, none⟩ (.int .i64 q))) := Lib.hid (((x0.on HWZ.out (by omega)).setCell (by simp) _).setCell (by simp) _)
          have HOW : Hid (OwnO ((x0.val.setCell ⟨w.heap.size + 1, 3, none⟩ (.int .i64 (j : Nat))).setCell ⟨w.heap.size + 1, 4, none⟩ (.int .i64 q)) (w.heap.size + 2) u7 l) := Lib.hid (((HOZ.out.later x0.below).setCell _ (by simp) _).setCell _ (by simp) _)
          have HIW : Hid (FirstIs ((x0.val.setCell ⟨w.heap.size + 1, 3, none⟩ (.int .i64 (j : Nat))).setCell ⟨w.heap.size + 1, 4, none⟩ (.int .i64 q)) B sn c F) := Lib.hid ((HIZ.out.later x0.below).same (by rw [heap_setCell_other _ _ _ _ (by simpa using hBv), heap_setCell_other _ _ _ _ (by simpa using hBv)]))
          have hzs : w.heap.size + 2 ≤ ((x0.val.setCell ⟨w.heap.size + 1, 3, none⟩ (.int .i64 (j : Nat))).setCell ⟨w.heap.size + 1, 4, none⟩ (.int .i64 q)).heap.size := by simp; omega
          clear HVX v0 vf0 vf1 vf2 vf3 vf4 vc0 vc1 vc2 vc3 vc4 HIZ HOZ HWZ HVZ
          generalize ((x0.val.setCell ⟨w.heap.size + 1, 3, none⟩ (.int .i64 (j : Nat))).setCell ⟨w.heap.size + 1, 4, none⟩ (.int .i64 q)) = ZZ at *
          obtain ⟨v0, vf0, vf1, vf2, vf3, vf4, vc0, vc1, vc2, vc3, vc4⟩ := five_z HVW.out
          go_wp2_with (at_builtin; refine append1_O rfl _ _ rfl (w.heap.size + 2) u7 l rfl (HOW.out.later ((Below.refl _ _).alloc (Nat.le_refl _) _)) ⟨ZZ.heap.size, 0, none⟩ ⟨kd, 0, ix, (j : Nat), q⟩ rfl (cells_atO _ _ rfl ⟨kd, 0, ix, (j : Nat), q⟩ _) (by omega) (by simp; omega) ?_; intro v3 w3 hown3 hg3 hat3; have HO3 := Lib.hid hown3; have HG := Lib.hid hg3; clear hown3 hg3 hat3)
          have h5w : ∀ k, u7.ownBlock = some k → w.heap.size + 2 ≤ k ∧ k < ZZ.heap.size := fun k hk => HOW.out.lt k hk
          go_roundw
          case rel =>
            refine ⟨j + 1, l ++ [⟨kd, 0, ix, (j : Nat), q⟩], (j : Nat), q, by omega, by go_num, HO3.out, HN.out, ?_, ?_, ?_⟩
            · rw [HG.out.block _ (by simp; omega) (fun e => by have := h5w _ e.symm; omega), Below.heap_alloc _ _ _ (by omega)]; exact HVW.out
            · refine (HIW.out.later ((Below.refl _ _).alloc (Nat.le_refl _) _)).same (HG.out.block _ (by have := HIW.out.lt; simp; omega) (fun e => ?_))
              obtain ⟨D, ⟨es, clock, hb, _⟩, _⟩ := HIW.out
              rcases HOW.out.2 with ⟨h1, _⟩ | ⟨g, cap, cur, h1, _, hh, _⟩
              · rw [h1] at e; cases e
              · rw [h1] at e
                have e2 : B = g := by simpa [Value.ownBlock] using e
                rw [e2, hh] at hb
                cases hb
            · exact Below.grown (w := ZZ.alloc _) (HWW.out.alloc (by omega) _) HG.out (by simp; omega) (fun k hk => by have := h5w k hk; omega)
          case measure => simp [intOf]; omega
        · by_cases hk4 : kd = 4
          · have HN : Hid (l ++ [⟨kd, 0, ix, (j : Nat), q⟩] = rs (j + 1)) := Lib.hid (by rw [HNX.out, HR1.out (by rw [hnl, hdm, hk4]; rfl), HL.out])
            rw [hnl] at D1
            have hk4b : (kd == 4) = true := by simp [hk4]
            clear hdm HA1 HA2 HR1 HR2 hk4
            go_wp2_with (first | (go_at_call 116; ((with_reducible refine (D1.out _ HW.out).mono ?_); rintro e _ ⟨rfl, y, rfl⟩; have ys := y.size; obtain ⟨l1, l2, l3, l4, l5⟩ := y.lts b1)) | (refine wpList_newK y.val rfl _ _ rfl HFJ.out rfl rfl ?_) | (refine wpList_loadK rfl _ rfl HFJ.out y.val.heap.size rfl (heap_alloc_new _ _) ?_; have HLK := ((HI.out.later y.below).later ((Below.refl _ _).alloc (Nat.le_refl _) (.cells (flatK (padK L)).toArray 151))).look HFJ.out; rw [HQ.out] at HLK))
            have HIZ := Lib.hid ((HI.out.later y.below).later ((Below.refl _ _).alloc (Nat.le_refl _) (.cells (flatK (padK L)).toArray 151)))
            have HKB := Lib.hid (heap_alloc_new y.val (.cells (flatK (padK L)).toArray 151))
            have HVZ : Hid ((y.val.alloc (.cells (flatK (padK L)).toArray 151)).heap[w.heap.size + 1]? = some (.cells #[.int .i64 kd, .int .i64 0, .int .i64 ix, .int .i64 vx, .int .i64 vy] 74)) := Lib.hid (by rw [Below.heap_alloc _ _ _ (by omega), y.below.block _ (by omega)]; exact HVB.out)
            have HWZ : Hid (Below w.heap.size w (y.val.alloc (.cells (flatK (padK L)).toArray 151))) := Lib.hid ((y.on HW.out (by omega)).alloc (by omega) _)
            have HOZ : Hid (OwnO (y.val.alloc (.cells (flatK (padK L)).toArray 151)) (w.heap.size + 2) u7 l) := Lib.hid (HO.out.later ((y.below).alloc (by omega) _))
            have hkz : y.val.heap.size < (y.val.alloc (.cells (flatK (padK L)).toArray 151)).heap.size := by simp
            have hky : w.heap.size + 2 ≤ y.val.heap.size := by omega
            clear HLK HI HVB HW HO ys l1 l2 l3 l4 l5
            generalize y.val.heap.size = kb at *
            generalize (y.val.alloc (.cells (flatK (padK L)).toArray 151)) = Z at *
            have hBv : B ≠ w.heap.size + 1 := by
              rintro rfl
              obtain ⟨D, ⟨es, clock, hb, _⟩, _⟩ := HIZ.out
              rw [HVZ.out] at hb
              cases hb
            refine LM.wp_region_lin_in (C := fun w' => ∃ y : LatB (w.heap.size + 1) Z, w' = y.val) (fun x => ⟨⟨x.val, (Tp.refl _ _).ext x⟩, rfl⟩) (by kernel_rfl) (by kernel_rfl) ?_
            intro x0
            have x0s := x0.size
            have HVX := Lib.hid ((x0.below.block _ (by omega)).trans HVZ.out)
            obtain ⟨v0, vf0, vf1, vf2, vf3, vf4, vc0, vc1, vc2, vc3, vc4⟩ := five_z HVX.out
            repeat (refine LM.lin_calm rfl ?_; intro KK hKK; (first | (refine BigFrame.wpQuiet_want rfl ?_; intro K2 hK2; refine quiet_loadK _ rfl HFJ.out kb rfl (fun W hW => by obtain ⟨yy, rfl⟩ := hW; rw [yy.tp.block _ hkz (by omega)]; exact HKB.out) ?_; refine hK2 _ ?_; clear hK2 K2; simp only [Act.put, List.setIfInBounds_toArray, List.set_cons_succ, List.set_cons_zero]) | (refine BigFrame.wpQuiet_want rfl ?_; intro K2 hK2; refine quiet_lookK _ _ rfl HFJ.out B rfl rfl (fun W hW => by obtain ⟨yy, rfl⟩ := hW; exact HIZ.out.same (yy.tp.block _ HIZ.out.lt hBv)) ?_; rw [HQ.out]; refine hK2 _ ?_; clear hK2 K2; simp only [Act.put, List.setIfInBounds_toArray, List.set_cons_succ, List.set_cons_zero]) | (go_big_quiet_step (fail))); refine wpQuiet_nil ?_; refine hKK _ ?_; clear hKK KK)
            refine LM.lin_free rfl ?_
            intro KK hKK
            go_wp2_with fail
            refine hKK _ _ (.inr ⟨⟨x0.val.setCell ⟨w.heap.size + 1, 3, none⟩ (.int .i64 (j : Nat)), Tp.setCell (p := ⟨w.heap.size + 1, 3, none⟩) ((Tp.refl _ _).ext x0) (.inr rfl) _⟩, rfl⟩) ?_
            clear hKK KK
            repeat (refine LM.lin_calm rfl ?_; intro KK hKK; (go_big_quiet_step (fail)); refine wpQuiet_nil ?_; refine hKK _ ?_; clear hKK KK)
            refine LM.lin_free rfl ?_
            intro KK hKK
            go_wp2_with fail
            refine hKK _ _ (.inl trivial) ?_
            clear hKK KK
            refine LM.lin_nil ?_
            have HVW : Hid (((x0.val.setCell ⟨w.heap.size + 1, 3, none⟩ (.int .i64 (j : Nat))).setCell ⟨w.heap.size + 1, 4, none⟩ (.int .i64 q)).heap[w.heap.size + 1]? = some (.cells #[.int .i64 kd, .int .i64 0, .int .i64 ix, .int .i64 (j : Nat), .int .i64 q] 74)) := Lib.hid (by
              have h1 := heap_setCell_same x0.val (w.heap.size + 1) 3 _ _ (.int .i64 (j : Nat)) HVX.out
              have h2 := heap_setCell_same _ (w.heap.size + 1) 4 _ _ (.int .i64 q) h1
              exact h2)
            have HWW : Hid (Below w.heap.size w ((x0.val.setCell ⟨w.heap.size + 1, 3, none⟩ (.int .i64 (j : Nat))).setCell ⟨w.heap.size + 1, 4, none⟩ (.int .i64 q))) := Lib.hid (((x0.on HWZ.out (by omega)).setCell (by simp) _).setCell (by simp) _)
            have HOW : Hid (OwnO ((x0.val.setCell ⟨w.heap.size + 1, 3, none⟩ (.int .i64 (j : Nat))).setCell ⟨w.heap.size + 1, 4, none⟩ (.int .i64 q)) (w.heap.size + 2) u7 l) := Lib.hid (((HOZ.out.later x0.below).setCell _ (by simp) _).setCell _ (by simp) _)
            have HIW : Hid (FirstIs ((x0.val.setCell ⟨w.heap.size + 1, 3, none⟩ (.int .i64 (j : Nat))).setCell ⟨w.heap.size + 1, 4, none⟩ (.int .i64 q)) B sn c F) := Lib.hid ((HIZ.out.later x0.below).same (by rw [heap_setCell_other _ _ _ _ (by simpa using hBv), heap_setCell_other _ _ _ _ (by simpa using hBv)]))
            have hzs : w.heap.size + 2 ≤ ((x0.val.setCell ⟨w.heap.size + 1, 3, none⟩ (.int .i64 (j : Nat))).setCell ⟨w.heap.size + 1, 4, none⟩ (.int .i64 q)).heap.size := by simp; omega
            clear HVX v0 vf0 vf1 vf2 vf3 vf4 vc0 vc1 vc2 vc3 vc4 HIZ HOZ HWZ HVZ
            generalize ((x0.val.setCell ⟨w.heap.size + 1, 3, none⟩ (.int .i64 (j : Nat))).setCell ⟨w.heap.size + 1, 4, none⟩ (.int .i64 q)) = ZZ at *
            obtain ⟨v0, vf0, vf1, vf2, vf3, vf4, vc0, vc1, vc2, vc3, vc4⟩ := five_z HVW.out
            go_wp2_with (at_builtin; refine append1_O rfl _ _ rfl (w.heap.size + 2) u7 l rfl (HOW.out.later ((Below.refl _ _).alloc (Nat.le_refl _) _)) ⟨ZZ.heap.size, 0, none⟩ ⟨kd, 0, ix, (j : Nat), q⟩ rfl (cells_atO _ _ rfl ⟨kd, 0, ix, (j : Nat), q⟩ _) (by omega) (by simp; omega) ?_; intro v3 w3 hown3 hg3 hat3; have HO3 := Lib.hid hown3; have HG := Lib.hid hg3; clear hown3 hg3 hat3)
            have h5w : ∀ k, u7.ownBlock = some k → w.heap.size + 2 ≤ k ∧ k < ZZ.heap.size := fun k hk => HOW.out.lt k hk
            go_roundw
            case rel =>
              refine ⟨j + 1, l ++ [⟨kd, 0, ix, (j : Nat), q⟩], (j : Nat), q, by omega, by go_num, HO3.out, HN.out, ?_, ?_, ?_⟩
              · rw [HG.out.block _ (by simp; omega) (fun e => by have := h5w _ e.symm; omega), Below.heap_alloc _ _ _ (by omega)]; exact HVW.out
              · refine (HIW.out.later ((Below.refl _ _).alloc (Nat.le_refl _) _)).same (HG.out.block _ (by have := HIW.out.lt; simp; omega) (fun e => ?_))
                obtain ⟨D, ⟨es, clock, hb, _⟩, _⟩ := HIW.out
                rcases HOW.out.2 with ⟨h1, _⟩ | ⟨g, cap, cur, h1, _, hh, _⟩
                · rw [h1] at e; cases e
                · rw [h1] at e
                  have e2 : B = g := by simpa [Value.ownBlock] using e
                  rw [e2, hh] at hb
                  cases hb
              · exact Below.grown (w := ZZ.alloc _) (HWW.out.alloc (by omega) _) HG.out (by simp; omega) (fun k hk => by have := h5w k hk; omega)
            case measure => simp [intOf]; omega
          · have hk4b : (kd == 4) = false := by simp [hk4]
            have HN : Hid (l = rs (j + 1)) := Lib.hid (by rw [HNX.out, HR2.out (by rw [hnl, hk4b]; rfl), List.append_nil, HL.out])
            rw [hnl] at D1
            clear hdm HA1 HA2 HR1 HR2 hk4
            go_wp2_with (first | (go_at_call 116; ((with_reducible refine (D1.out _ HW.out).mono ?_); rintro e _ ⟨rfl, y, rfl⟩; have ys := y.size; obtain ⟨l1, l2, l3, l4, l5⟩ := y.lts b1)) | (refine wpList_newK y.val rfl _ _ rfl HFJ.out rfl rfl ?_) | (refine wpList_loadK rfl _ rfl HFJ.out y.val.heap.size rfl (heap_alloc_new _ _) ?_; have HLK := ((HI.out.later y.below).later ((Below.refl _ _).alloc (Nat.le_refl _) (.cells (flatK (padK L)).toArray 151))).look HFJ.out; rw [HQ.out] at HLK))
            go_roundw
            case rel =>
              refine ⟨j + 1, l, vx, vy, by omega, by go_num, HO.out.later ((y.below).alloc (by omega) _), HN.out, ?_, (HI.out.later y.below).later ((Below.refl _ _).alloc (Nat.le_refl _) _), ?_⟩
              · rw [Below.heap_alloc _ _ _ (by omega), y.below.block _ (by omega)]; exact HVB.out
              · exact (y.on HW.out (by omega)).alloc (by omega) _
            case measure => simp [intOf]; omega
      · have hq : q = (j : Int) := HA2.out (by omega)
        subst hq
        have hdm : decide (0 ≤ m) = false := by simpa using hm
        have HN : Hid (l = rs (j + 1)) := Lib.hid (by rw [HNX.out, HR2.out (by rw [hdm, Bool.and_false]), List.append_nil, HL.out])
        have hqd : decide ((j : Int) < (j : Int)) = false := by simp
        clear hdm HA1 HA2 HR1 HR2
        cases hnl : nulL L
        all_goals
          rw [hnl] at D1
          go_wp2_with (first | (go_at_call 116; ((with_reducible refine (D1.out _ HW.out).mono ?_); rintro e _ ⟨rfl, y, rfl⟩; have ys := y.size; obtain ⟨l1, l2, l3, l4, l5⟩ := y.lts b1)) | (refine wpList_newK y.val rfl _ _ rfl HFJ.out rfl rfl ?_) | (refine wpList_loadK rfl _ rfl HFJ.out y.val.heap.size rfl (heap_alloc_new _ _) ?_; have HLK := ((HI.out.later y.below).later ((Below.refl _ _).alloc (Nat.le_refl _) (.cells (flatK (padK L)).toArray 151))).look HFJ.out; rw [HQ.out] at HLK))
          go_roundw
          case rel =>
            refine ⟨j + 1, l, vx, vy, by omega, by go_num, HO.out.later ((y.below).alloc (by omega) _), HN.out, ?_, (HI.out.later y.below).later ((Below.refl _ _).alloc (Nat.le_refl _) _), ?_⟩
            · rw [Below.heap_alloc _ _ _ (by omega), y.below.block _ (by omega)]; exact HVB.out
            · exact (y.on HW.out (by omega)).alloc (by omega) _
          case measure => simp [intOf]; omega
    · obtain rfl : j = sn := by omega
      go_wp2_with fail
      go_ret
      exact ⟨_, rfl, by rw [← HL.out]; exact HO.out, Cls.of HW.out⟩
end Go.Proofs.YtdmhmlnfoocnjaaGreatDoor
