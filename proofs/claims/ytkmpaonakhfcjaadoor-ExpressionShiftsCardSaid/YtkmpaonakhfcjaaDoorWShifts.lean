/-
  The walk of the law ExpressionShifts: it returns true for every list of numbers and every list of values.
-/
import Derived.Test.YtkmpaonakhfcjaaDoorLawBase
import Derived.Test.YtkmpaonakhfcjaaDoorShMath
import Derived.Test.YtkmpaonakhfcjaaDoorVals
import Derived.Test.YtkmpaonakhfcjaaDoorREvalAll
import Derived.Test.YtkmpaonakhfcjaaDoorLin
import Derived.Deep.RegionWith
set_option linter.unusedVariables false
namespace Go.Proofs.YtkmpaonakhfcjaaDoor
open Go Go.RowKit Go.Deep
set_option maxHeartbeats 4000000 in
set_option maxRecDepth 20000 in
theorem expressionShifts_walk (B : Nat) (hE : ExprOf 4 B) (hB : B ≤ 10000) (a : Option Addr) (len cap : Nat) (sl : Sl) (bl : List Vl) (w : World) (hn : NumsAt w a len) (hv : ValsAt w sl bl) (ho : OpsTab w) :
    Calls Tryd.prog 4 #[.slice a len cap, .slice sl.a sl.len sl.cap] w fun r w' => r = .returned (.bool true) ∧ Below w.heap.size w w' := by
  obtain ⟨i0, hi, hz0, hz1, hz2⟩ := info_parts infoVl
  have H := Lib.hid (tape_new (cap := cap) hn)
  have HO := Lib.hid ho
  have HE := Lib.hid hE
  have HBV := Lib.hid hv
  have hle := hv.1.2.1
  have hmax := hv.1.2.2.1
  unfold maxLen at hmax
  clear hn ho hE
  obtain ⟨sa, sn, sc⟩ := sl
  simp only at hle hmax ⊢
  by_cases h20 : 20 < sn
  · have d1 : decide (20 < (sn : Int)) = true := by simp; omega
    clear hv
    go_enter Tryd.func4, Tryd.ntmps4
    go_wp2_with fail
    all_goals
      go_ret
      refine ⟨ret_bool rfl, ?_⟩
      repeat first | with_reducible exact Below.refl _ _ | with_reducible refine Below.setCell ?_ (by first | omega | (simp; done) | (simp; omega)) _ | with_reducible refine Below.alloc ?_ (by first | omega | (simp; done) | (simp; omega)) _ | with_reducible refine Below.drew ?_ | with_reducible refine Ext.on _ ?_ (by first | omega | (simp; done) | (simp; omega))
  · have d1 : decide (20 < (sn : Int)) = false := by simp; omega
    cases sa with
    | none =>
      have hsc : sc = 0 := hv.2 rfl
      subst hsc
      have hsn : sn = 0 := by omega
      subst hsn
      obtain rfl : bl = [] := List.eq_nil_of_length_eq_zero hv.1.1
      have hbl : Hid (([] : List Vl).length = 0) := Lib.hid rfl
      clear hv
      go_enter Tryd.func4, Tryd.ntmps4
      go_wp2_with (first | (go_at_call 7; ((with_reducible refine (Types_use w.heap.size 0 4 4 _ H.out (by omega) (by omega) (by omega) rfl).mono ?_); rintro e0 w1 hq; obtain ⟨ty, a1, c1, rfl, hl1, hl2, hty, hat, z1, rfl⟩ := hq; have HTY := Lib.hid hty; have HAT := Lib.hid hat; clear hty hat; have z1s := z1.size; simp at z1s)) | (go_at_call 8; ((with_reducible refine (Next_calls w.heap.size (0 + 1 + 4) 3 _ z1.at_ (by omega) (by omega) (by omega)).mono ?_); rintro e0 w1 hq; obtain ⟨rk, rfl, hrk, zb, rfl⟩ := hq; have zbs := zb.size; have hrk2 : rk ≤ 2 := (by omega); have hkk : IsTy (1 + (rk : Int)) := (by unfold IsTy; omega); clear hrk; have HKK := Lib.hid hkk; clear hkk)) | (go_at_call 9; ((with_reducible refine (HE.out.use w.heap.size (0 + 1 + 4 + 1) ty (1 + (rk : Int)) a1 _ c1 _ 4 rfl zb.at_ (HAT.out.tp zb.tp) HKK.out (by omega) (by omega)).mono ?_); rintro e0 w1 hq; obtain ⟨e, a2, n2, c2, rfl, hmade, hfine, hkids, z2, rfl⟩ := hq; have HM := Lib.hid hmade; have HF := Lib.hid hfine; have HK := Lib.hid hkids; clear hmade hfine hkids; have z2s := z2.size)) | (go_at_call 10; ((with_reducible refine (Row_calls w.heap.size _ ty a1 _ c1 _ (z2.at_.later ((Below.refl _ _).alloc (Nat.le_refl _) _)) (((HAT.out.tp zb.tp).tp z2.tp).tp ((Tp.refl _ _).alloc _)) HTY.out ?_ (by omega)).mono ?_); (· omega); rintro e0 w1 hq; obtain ⟨row, a3, c3, rfl, hr1, hr2, hrow, z3, rfl⟩ := hq; have HR1 := Lib.hid hr1; have HR2 := Lib.hid hr2; have HROW := Lib.hid hrow; clear hr1 hr2 hrow; have z3s := z3.size; simp at z3s; have q1 : z2.val.heap.size ≠ w.heap.size := (by omega); have q2 : z2.val.heap.size < z3.val.heap.size := (by omega); have hA3 : Tp w.heap.size w z3.val := z3.on ((z2.on (zb.on (z1.on ((Tp.refl _ _).alloc _)))).alloc _); have HTP := Lib.hid hA3; clear hA3; obtain ⟨rb, roff, rfl, hrbT, hrb, hrc⟩ := HROW.out.open_ (by omega); clear hrc)) | (at_builtin; first | (refine wpList_append_own_none rfl _ _ 32 rfl z3.val.heap.size 39 i0 3 Tryd.underlying32 hi _ 0 [] rfl (World.ownsRow_nil _ _ _ 3) rfl ?_) | (refine wpList_append_own_at _ rfl _ _ 32 rfl z3.val.heap.size 39 i0 (.agg #[.int .i64 0, .int .i64 0, .string ⟨#[]⟩]) 3 32 Tryd.underlying32 hi hz0 hz1 hz2 rfl (by decide) (.slice none 0 0) 0 [] rfl (World.ownsRow_nil _ _ _ 3) ⟨rb, roff, none⟩ ty.length c3 (flatV row) rfl (by rw [flatV_length, HR1.out]) (row_news (HROW.out.row)) (flatV_one _) (by unfold maxLen; omega) (by omega) (Nat.le_refl _) ?_; intro v6 w6 hown6 hg6 _ hat6; have HO2 := Lib.hid hown6; have HG2 : Hid (Below z3.val.heap.size z3.val w6) := Lib.hid (Below.grown (w := z3.val) (Below.refl _ _) hg6 (Nat.le_refl _) (fun k hk => by cases hk)); clear hown6 hg6 hat6)))
      have hown : w6.ownsRow z3.val.heap.size 39 3 v6 (([] : List Vl) ++ row).length (flatV (([] : List Vl) ++ row)) := by
        rw [List.length_append, flatV_append, hbl.out, HR1.out]; simpa [flatV] using HO2.out
      have hsz : ∀ x ∈ ([] : List Vl) ++ row, x.s.size ≤ maxLen := by
        intro x hx
        rcases List.mem_append.1 hx with h | h
        · exact HBV.out.1.2.2.2.1 x h
        · exact HROW.out.row.2.2.2.1 x h
      obtain ⟨a5, c5, hv6, hall⟩ := rowIs_of hown hsz
      generalize (([] : List Vl) ++ row).length = N at hv6 hall
      have hT : w.heap.size < z3.val.heap.size := by have := z3.at_.lt; omega
      have hk3 : Kids z3.val (fun _ => True) a2 n2 c2 e.kids := (Kids.up (lo := w.heap.size + 1) ((HK.out).low (by omega)) (Up.lat z3 ((Up.refl _ _).alloc _) (by omega))).any
      have hk6 := hk3.later HG2.out
      have hrow6 := HROW.out.row.later HG2.out
      have hg : 0 < w.heap.size := HO.out.1
      have hops6 : OpsTab w6 := (HO.out.tp HTP.out (by omega)).later HG2.out
      have hbel6 : Below w.heap.size w w6 := (HTP.out.toBelow (Nat.le_refl _) (Nat.le_refl _)).trans (HG2.out.mono (by omega))
      have hq6 : z2.val.heap.size < w6.heap.size := Nat.lt_of_lt_of_le q2 HG2.out.size
      have p0 : w6.cell? ⟨z2.val.heap.size, 0, none⟩ = some (.int .i64 e.op) := by rw [HG2.out.cell (p := ⟨z2.val.heap.size, 0, none⟩) q2, z3.cell 0 (by simp) q1]; simp [go_sem]
      have p1 : w6.cell? ⟨z2.val.heap.size, 1, none⟩ = some (.int .i64 e.ty) := by rw [HG2.out.cell (p := ⟨z2.val.heap.size, 1, none⟩) q2, z3.cell 1 (by simp) q1]; simp [go_sem]
      have p2 : w6.cell? ⟨z2.val.heap.size, 2, none⟩ = some (.int .i64 e.num) := by rw [HG2.out.cell (p := ⟨z2.val.heap.size, 2, none⟩) q2, z3.cell 2 (by simp) q1]; simp [go_sem]
      have p3 : w6.cell? ⟨z2.val.heap.size, 3, none⟩ = some (.string e.text) := by rw [HG2.out.cell (p := ⟨z2.val.heap.size, 3, none⟩) q2, z3.cell 3 (by simp) q1]; simp [go_sem]
      have p4 : w6.cell? ⟨z2.val.heap.size, 4, none⟩ = some (.int .i64 e.col) := by rw [HG2.out.cell (p := ⟨z2.val.heap.size, 4, none⟩) q2, z3.cell 4 (by simp) q1]; simp [go_sem]
      have p5 : w6.cell? ⟨z2.val.heap.size, 5, none⟩ = some (.slice a2 n2 c2) := by rw [HG2.out.cell (p := ⟨z2.val.heap.size, 5, none⟩) q2, z3.cell 5 (by simp) q1]; simp [go_sem]
      have hval := shift_eval (bl := ([] : List Vl)) HR1.out (by have := hbl.out; omega) (by omega) HM.out
      rw [hbl.out] at hval
      replace hval : evalE (shiftE e 0) (([] : List Vl) ++ row) = evalE e row := hval
      have CS : Hid (∀ W, Below w6.heap.size w6 W → Calls Tryd.prog 16 #[.agg #[.int .i64 e.op, .int .i64 e.ty, .int .i64 e.num, .string e.text, .int .i64 e.col, .slice a2 n2 c2], .int .i64 (0 : Int)] W fun r w' => ShiftIs e (0 : Int) n2 W r w') := Lib.hid (fun W hW => Shift_calls e _ a2 n2 c2 _ W (hk6.later hW) HM.out.slim)
      have E1 : Hid (∀ a' c' (ok : Nat → Prop) W, Kids W ok a' n2 c' (shiftE e (0 : Int)).kids → Below w6.heap.size w6 W → Calls Tryd.prog 13 #[.agg #[.int .i64 (shiftE e (0 : Int)).op, .int .i64 (shiftE e (0 : Int)).ty, .int .i64 (shiftE e (0 : Int)).num, .string (shiftE e (0 : Int)).text, .int .i64 (shiftE e (0 : Int)).col, .slice a' n2 c'], .slice a5 N c5] W fun r w' => r = .returned (.agg #[.int .i64 (evalE e row).k, .int .i64 (evalE e row).n, .string (evalE e row).s]) ∧ Cls W w') := Lib.hid (fun a' c' ok W hkk hW => by
        have := Eval_calls (shiftE e (0 : Int)) a' n2 c' ok a5 N c5 (([] : List Vl) ++ row) W hkk (shiftE_fine _ HF.out) (hall.later hW) (hops6.later hW)
        rw [hval] at this
        exact this)
      have E2 : Hid (∀ W, Below w6.heap.size w6 W → Calls Tryd.prog 13 #[.agg #[.int .i64 e.op, .int .i64 e.ty, .int .i64 e.num, .string e.text, .int .i64 e.col, .slice a2 n2 c2], .slice (some ⟨rb, roff, none⟩) ty.length c3] W fun r w' => r = .returned (.agg #[.int .i64 (evalE e row).k, .int .i64 (evalE e row).n, .string (evalE e row).s]) ∧ Cls W w') := Lib.hid (fun W hW => Eval_calls e a2 n2 c2 _ _ _ c3 row W (hk6.later hW) HF.out (hrow6.later hW) (hops6.later hW))
      have E3 : Hid (∀ W, Below w6.heap.size w6 W → Calls Tryd.prog 14 #[.agg #[.int .i64 e.op, .int .i64 e.ty, .int .i64 e.num, .string e.text, .int .i64 e.col, .slice a2 n2 c2], .slice (some ⟨rb, roff, none⟩) ty.length c3] W fun r w' => r = .returned (.agg #[.int .i64 (evalE e row).k, .int .i64 (evalE e row).n, .string (evalE e row).s]) ∧ Cls W w') := Lib.hid (fun W hW => REval_calls e a2 n2 c2 _ _ _ c3 row W (hk6.later hW) HF.out HM.out.slim (hrow6.later hW))
      have HB6 := Lib.hid hbel6
      clear hown hsz hall hT hk3 hk6 hrow6 hg hops6 hbel6 hval HO2 HTP HROW HR1 HR2 HK HM HF HAT HTY H HO HE HBV hbl HKK
      generalize evalE e row = v at E1 E2 E3
      subst hv6
      refine wp_region_lin (by kernel_rfl) (by kernel_rfl) ?_
      intro yy
      repeat first | (refine lin_calm rfl ?_; intro KK hKK; go_big_quiet_step (fail); refine wpQuiet_nil ?_; refine hKK _ ?_; clear hKK KK) | (refine lin_free rfl ?_; intro KK hKK; go_wp2_with (first | (go_at_call 16; ((with_reducible refine (CS.out _ ?_).mono ?_); (· (repeat first | with_reducible exact Below.refl _ _ | with_reducible refine Below.setCell ?_ (by first | omega | (simp; done) | (simp; omega)) _ | with_reducible refine Below.alloc ?_ (by first | omega | (simp; done) | (simp; omega)) _ | with_reducible refine Below.drew ?_ | with_reducible refine Ext.on _ ?_ (by first | omega | (simp; done) | (simp; omega)))); rintro r w2 hq; obtain ⟨aS, cS, rfl, hkS, hcS⟩ := hq; have HKS := Lib.hid hkS; obtain ⟨yS, rfl⟩ := Cls.step _ hcS; clear hkS hcS)) | (go_at_call_of 13 (shiftE e); ((with_reducible refine (Cls.call (E1.out _ _ _ _ HKS.out (by repeat first | with_reducible exact Below.refl _ _ | with_reducible refine Below.setCell ?_ (by first | omega | (simp; done) | (simp; omega)) _ | with_reducible refine Below.alloc ?_ (by first | omega | (simp; done) | (simp; omega)) _ | with_reducible refine Below.drew ?_ | with_reducible refine Ext.on _ ?_ (by first | omega | (simp; done) | (simp; omega))))).mono ?_); rintro r _ ⟨rfl, y1, rfl⟩)) | (go_at_call 13; ((with_reducible refine (Cls.call (E2.out _ (by repeat first | with_reducible exact Below.refl _ _ | with_reducible refine Below.setCell ?_ (by first | omega | (simp; done) | (simp; omega)) _ | with_reducible refine Below.alloc ?_ (by first | omega | (simp; done) | (simp; omega)) _ | with_reducible refine Below.drew ?_ | with_reducible refine Ext.on _ ?_ (by first | omega | (simp; done) | (simp; omega))))).mono ?_); rintro r _ ⟨rfl, y2, rfl⟩)) | (go_at_call 14; ((with_reducible refine (Cls.call (E3.out _ (by repeat first | with_reducible exact Below.refl _ _ | with_reducible refine Below.setCell ?_ (by first | omega | (simp; done) | (simp; omega)) _ | with_reducible refine Below.alloc ?_ (by first | omega | (simp; done) | (simp; omega)) _ | with_reducible refine Below.drew ?_ | with_reducible refine Ext.on _ ?_ (by first | omega | (simp; done) | (simp; omega))))).mono ?_); rintro r _ ⟨rfl, y3, rfl⟩))); refine hKK _ _ (.inr ⟨_, rfl⟩) ?_; clear hKK KK)
      refine lin_nil ?_
      go_wp2_with fail
      go_ret
      refine ⟨ret_bool rfl, ?_⟩
      refine HB6.out.trans (Below.mono (B := w6.heap.size) ?_ HB6.out.size)
      repeat first | with_reducible exact Below.refl _ _ | with_reducible refine Below.setCell ?_ (by first | omega | (simp; done) | (simp; omega)) _ | with_reducible refine Below.alloc ?_ (by first | omega | (simp; done) | (simp; omega)) _ | with_reducible refine Below.drew ?_ | with_reducible refine Ext.on _ ?_ (by first | omega | (simp; done) | (simp; omega))
    | some ad =>
      have hbl : Hid (bl.length = sn) := Lib.hid hv.1.1
      clear hv
      go_enter Tryd.func4, Tryd.ntmps4
      go_wp2_with (first | (go_at_call 7; ((with_reducible refine (Types_use w.heap.size 0 4 4 _ H.out (by omega) (by omega) (by omega) rfl).mono ?_); rintro e0 w1 hq; obtain ⟨ty, a1, c1, rfl, hl1, hl2, hty, hat, z1, rfl⟩ := hq; have HTY := Lib.hid hty; have HAT := Lib.hid hat; clear hty hat; have z1s := z1.size; simp at z1s)) | (go_at_call 8; ((with_reducible refine (Next_calls w.heap.size (0 + 1 + 4) 3 _ z1.at_ (by omega) (by omega) (by omega)).mono ?_); rintro e0 w1 hq; obtain ⟨rk, rfl, hrk, zb, rfl⟩ := hq; have zbs := zb.size; have hrk2 : rk ≤ 2 := (by omega); have hkk : IsTy (1 + (rk : Int)) := (by unfold IsTy; omega); clear hrk; have HKK := Lib.hid hkk; clear hkk)) | (go_at_call 9; ((with_reducible refine (HE.out.use w.heap.size (0 + 1 + 4 + 1) ty (1 + (rk : Int)) a1 _ c1 _ 4 rfl zb.at_ (HAT.out.tp zb.tp) HKK.out (by omega) (by omega)).mono ?_); rintro e0 w1 hq; obtain ⟨e, a2, n2, c2, rfl, hmade, hfine, hkids, z2, rfl⟩ := hq; have HM := Lib.hid hmade; have HF := Lib.hid hfine; have HK := Lib.hid hkids; clear hmade hfine hkids; have z2s := z2.size)) | (go_at_call 10; ((with_reducible refine (Row_calls w.heap.size _ ty a1 _ c1 _ (z2.at_.later ((Below.refl _ _).alloc (Nat.le_refl _) _)) (((HAT.out.tp zb.tp).tp z2.tp).tp ((Tp.refl _ _).alloc _)) HTY.out ?_ (by omega)).mono ?_); (· omega); rintro e0 w1 hq; obtain ⟨row, a3, c3, rfl, hr1, hr2, hrow, z3, rfl⟩ := hq; have HR1 := Lib.hid hr1; have HR2 := Lib.hid hr2; have HROW := Lib.hid hrow; clear hr1 hr2 hrow; have z3s := z3.size; simp at z3s; have q1 : z2.val.heap.size ≠ w.heap.size := (by omega); have q2 : z2.val.heap.size < z3.val.heap.size := (by omega); have hA3 : Tp w.heap.size w z3.val := z3.on ((z2.on (zb.on (z1.on ((Tp.refl _ _).alloc _)))).alloc _); have HNEW := Lib.hid (row_news (HBV.out.1.later (hA3.toBelow (Nat.le_refl _) (Nat.le_refl _)))); have HTP := Lib.hid hA3; clear hA3; obtain ⟨rb, roff, rfl, hrbT, hrb, hrc⟩ := HROW.out.open_ (by omega); clear hrc)) | (at_builtin; first | (refine wpList_append_own_at _ rfl _ _ 32 rfl z3.val.heap.size 39 i0 (.agg #[.int .i64 0, .int .i64 0, .string ⟨#[]⟩]) 3 32 Tryd.underlying32 hi hz0 hz1 hz2 rfl (by decide) _ (0 + sn) ([] ++ flatV bl) rfl HO1.out ⟨rb, roff, none⟩ ty.length c3 (flatV row) rfl (by rw [flatV_length, HR1.out]) (row_news (HROW.out.row.later HG1.out)) (flatV_one _) (by unfold maxLen; omega) (by omega) HG1.out.size ?_; intro v6 w6 hown6 hg6 _ hat6; have HO2 := Lib.hid hown6; have HG2 : Hid (Below z3.val.heap.size z3.val w6) := Lib.hid (Below.grown (w := w5) HG1.out hg6 HG1.out.size (fun k hk => (HO1.out.lt k hk).1)); clear hown6 hg6 hat6) | (refine wpList_append_own_at _ rfl _ _ 32 rfl z3.val.heap.size 39 i0 (.agg #[.int .i64 0, .int .i64 0, .string ⟨#[]⟩]) 3 32 Tryd.underlying32 hi hz0 hz1 hz2 rfl (by decide) (.slice none 0 0) 0 [] rfl (World.ownsRow_nil _ _ _ 3) ad sn sc (flatV bl) rfl (by rw [flatV_length, hbl.out]) HNEW.out (flatV_one _) (by unfold maxLen; omega) (by omega) (Nat.le_refl _) ?_; intro v5 w5 hown5 hg5 _ hat5; have HO1 := Lib.hid hown5; have HG1 : Hid (Below z3.val.heap.size z3.val w5) := Lib.hid (Below.grown (w := z3.val) (Below.refl _ _) hg5 (Nat.le_refl _) (fun k hk => by cases hk)); clear hown5 hg5 hat5)))
      have hown : w6.ownsRow z3.val.heap.size 39 3 v6 (bl ++ row).length (flatV (bl ++ row)) := by
        rw [List.length_append, flatV_append, hbl.out, HR1.out]; simpa using HO2.out
      have hsz : ∀ x ∈ bl ++ row, x.s.size ≤ maxLen := by
        intro x hx
        rcases List.mem_append.1 hx with h | h
        · exact HBV.out.1.2.2.2.1 x h
        · exact HROW.out.row.2.2.2.1 x h
      obtain ⟨a5, c5, hv6, hall⟩ := rowIs_of hown hsz
      generalize (bl ++ row).length = N at hv6 hall
      have hT : w.heap.size < z3.val.heap.size := by have := z3.at_.lt; omega
      have hk3 : Kids z3.val (fun _ => True) a2 n2 c2 e.kids := (Kids.up (lo := w.heap.size + 1) ((HK.out).low (by omega)) (Up.lat z3 ((Up.refl _ _).alloc _) (by omega))).any
      have hk6 := hk3.later HG2.out
      have hrow6 := HROW.out.row.later HG2.out
      have hg : 0 < w.heap.size := HO.out.1
      have hops6 : OpsTab w6 := (HO.out.tp HTP.out (by omega)).later HG2.out
      have hbel6 : Below w.heap.size w w6 := (HTP.out.toBelow (Nat.le_refl _) (Nat.le_refl _)).trans (HG2.out.mono (by omega))
      have hq6 : z2.val.heap.size < w6.heap.size := Nat.lt_of_lt_of_le q2 HG2.out.size
      have p0 : w6.cell? ⟨z2.val.heap.size, 0, none⟩ = some (.int .i64 e.op) := by rw [HG2.out.cell (p := ⟨z2.val.heap.size, 0, none⟩) q2, z3.cell 0 (by simp) q1]; simp [go_sem]
      have p1 : w6.cell? ⟨z2.val.heap.size, 1, none⟩ = some (.int .i64 e.ty) := by rw [HG2.out.cell (p := ⟨z2.val.heap.size, 1, none⟩) q2, z3.cell 1 (by simp) q1]; simp [go_sem]
      have p2 : w6.cell? ⟨z2.val.heap.size, 2, none⟩ = some (.int .i64 e.num) := by rw [HG2.out.cell (p := ⟨z2.val.heap.size, 2, none⟩) q2, z3.cell 2 (by simp) q1]; simp [go_sem]
      have p3 : w6.cell? ⟨z2.val.heap.size, 3, none⟩ = some (.string e.text) := by rw [HG2.out.cell (p := ⟨z2.val.heap.size, 3, none⟩) q2, z3.cell 3 (by simp) q1]; simp [go_sem]
      have p4 : w6.cell? ⟨z2.val.heap.size, 4, none⟩ = some (.int .i64 e.col) := by rw [HG2.out.cell (p := ⟨z2.val.heap.size, 4, none⟩) q2, z3.cell 4 (by simp) q1]; simp [go_sem]
      have p5 : w6.cell? ⟨z2.val.heap.size, 5, none⟩ = some (.slice a2 n2 c2) := by rw [HG2.out.cell (p := ⟨z2.val.heap.size, 5, none⟩) q2, z3.cell 5 (by simp) q1]; simp [go_sem]
      have hval := shift_eval (bl := bl) HR1.out (by have := hbl.out; omega) (by omega) HM.out
      rw [hbl.out] at hval
      have CS : Hid (∀ W, Below w6.heap.size w6 W → Calls Tryd.prog 16 #[.agg #[.int .i64 e.op, .int .i64 e.ty, .int .i64 e.num, .string e.text, .int .i64 e.col, .slice a2 n2 c2], .int .i64 ((sn : Nat) : Int)] W fun r w' => ShiftIs e ((sn : Nat) : Int) n2 W r w') := Lib.hid (fun W hW => Shift_calls e _ a2 n2 c2 _ W (hk6.later hW) HM.out.slim)
      have E1 : Hid (∀ a' c' (ok : Nat → Prop) W, Kids W ok a' n2 c' (shiftE e ((sn : Nat) : Int)).kids → Below w6.heap.size w6 W → Calls Tryd.prog 13 #[.agg #[.int .i64 (shiftE e ((sn : Nat) : Int)).op, .int .i64 (shiftE e ((sn : Nat) : Int)).ty, .int .i64 (shiftE e ((sn : Nat) : Int)).num, .string (shiftE e ((sn : Nat) : Int)).text, .int .i64 (shiftE e ((sn : Nat) : Int)).col, .slice a' n2 c'], .slice a5 N c5] W fun r w' => r = .returned (.agg #[.int .i64 (evalE e row).k, .int .i64 (evalE e row).n, .string (evalE e row).s]) ∧ Cls W w') := Lib.hid (fun a' c' ok W hkk hW => by
        have := Eval_calls (shiftE e ((sn : Nat) : Int)) a' n2 c' ok a5 N c5 (bl ++ row) W hkk (shiftE_fine _ HF.out) (hall.later hW) (hops6.later hW)
        rw [hval] at this
        exact this)
      have E2 : Hid (∀ W, Below w6.heap.size w6 W → Calls Tryd.prog 13 #[.agg #[.int .i64 e.op, .int .i64 e.ty, .int .i64 e.num, .string e.text, .int .i64 e.col, .slice a2 n2 c2], .slice (some ⟨rb, roff, none⟩) ty.length c3] W fun r w' => r = .returned (.agg #[.int .i64 (evalE e row).k, .int .i64 (evalE e row).n, .string (evalE e row).s]) ∧ Cls W w') := Lib.hid (fun W hW => Eval_calls e a2 n2 c2 _ _ _ c3 row W (hk6.later hW) HF.out (hrow6.later hW) (hops6.later hW))
      have E3 : Hid (∀ W, Below w6.heap.size w6 W → Calls Tryd.prog 14 #[.agg #[.int .i64 e.op, .int .i64 e.ty, .int .i64 e.num, .string e.text, .int .i64 e.col, .slice a2 n2 c2], .slice (some ⟨rb, roff, none⟩) ty.length c3] W fun r w' => r = .returned (.agg #[.int .i64 (evalE e row).k, .int .i64 (evalE e row).n, .string (evalE e row).s]) ∧ Cls W w') := Lib.hid (fun W hW => REval_calls e a2 n2 c2 _ _ _ c3 row W (hk6.later hW) HF.out HM.out.slim (hrow6.later hW))
      have HB6 := Lib.hid hbel6
      clear hown hsz hall hT hk3 hk6 hrow6 hg hops6 hbel6 hval HO1 HO2 HG1 HNEW HTP HROW HR1 HR2 HK HM HF HAT HTY H HO HE HBV hbl HKK
      generalize evalE e row = v at E1 E2 E3
      subst hv6
      refine wp_region_lin (by kernel_rfl) (by kernel_rfl) ?_
      intro yy
      repeat first | (refine lin_calm rfl ?_; intro KK hKK; go_big_quiet_step (fail); refine wpQuiet_nil ?_; refine hKK _ ?_; clear hKK KK) | (refine lin_free rfl ?_; intro KK hKK; go_wp2_with (first | (go_at_call 16; ((with_reducible refine (CS.out _ ?_).mono ?_); (· (repeat first | with_reducible exact Below.refl _ _ | with_reducible refine Below.setCell ?_ (by first | omega | (simp; done) | (simp; omega)) _ | with_reducible refine Below.alloc ?_ (by first | omega | (simp; done) | (simp; omega)) _ | with_reducible refine Below.drew ?_ | with_reducible refine Ext.on _ ?_ (by first | omega | (simp; done) | (simp; omega)))); rintro r w2 hq; obtain ⟨aS, cS, rfl, hkS, hcS⟩ := hq; have HKS := Lib.hid hkS; obtain ⟨yS, rfl⟩ := Cls.step _ hcS; clear hkS hcS)) | (go_at_call_of 13 (shiftE e); ((with_reducible refine (Cls.call (E1.out _ _ _ _ HKS.out (by repeat first | with_reducible exact Below.refl _ _ | with_reducible refine Below.setCell ?_ (by first | omega | (simp; done) | (simp; omega)) _ | with_reducible refine Below.alloc ?_ (by first | omega | (simp; done) | (simp; omega)) _ | with_reducible refine Below.drew ?_ | with_reducible refine Ext.on _ ?_ (by first | omega | (simp; done) | (simp; omega))))).mono ?_); rintro r _ ⟨rfl, y1, rfl⟩)) | (go_at_call 13; ((with_reducible refine (Cls.call (E2.out _ (by repeat first | with_reducible exact Below.refl _ _ | with_reducible refine Below.setCell ?_ (by first | omega | (simp; done) | (simp; omega)) _ | with_reducible refine Below.alloc ?_ (by first | omega | (simp; done) | (simp; omega)) _ | with_reducible refine Below.drew ?_ | with_reducible refine Ext.on _ ?_ (by first | omega | (simp; done) | (simp; omega))))).mono ?_); rintro r _ ⟨rfl, y2, rfl⟩)) | (go_at_call 14; ((with_reducible refine (Cls.call (E3.out _ (by repeat first | with_reducible exact Below.refl _ _ | with_reducible refine Below.setCell ?_ (by first | omega | (simp; done) | (simp; omega)) _ | with_reducible refine Below.alloc ?_ (by first | omega | (simp; done) | (simp; omega)) _ | with_reducible refine Below.drew ?_ | with_reducible refine Ext.on _ ?_ (by first | omega | (simp; done) | (simp; omega))))).mono ?_); rintro r _ ⟨rfl, y3, rfl⟩))); refine hKK _ _ (.inr ⟨_, rfl⟩) ?_; clear hKK KK)
      refine lin_nil ?_
      go_wp2_with fail
      go_ret
      refine ⟨ret_bool rfl, ?_⟩
      refine HB6.out.trans (Below.mono (B := w6.heap.size) ?_ HB6.out.size)
      repeat first | with_reducible exact Below.refl _ _ | with_reducible refine Below.setCell ?_ (by first | omega | (simp; done) | (simp; omega)) _ | with_reducible refine Below.alloc ?_ (by first | omega | (simp; done) | (simp; omega)) _ | with_reducible refine Below.drew ?_ | with_reducible refine Ext.on _ ?_ (by first | omega | (simp; done) | (simp; omega))
end Go.Proofs.YtkmpaonakhfcjaaDoor
