/-
  The walk of the law ExpressionTyped: it returns true for every list of numbers.
-/
import Derived.Test.YtkmpaonakhfcjaaDoorLawBase
import Derived.Test.YtkmpaonakhfcjaaDoorTypeD
import Derived.Test.YtkmpaonakhfcjaaDoorShMath
import Derived.Test.YtkmpaonakhfcjaaDoorFew
import Derived.Test.YtkmpaonakhfcjaaDoorREvalAll
set_option linter.unusedVariables false
namespace Go.Proofs.YtkmpaonakhfcjaaDoor
open Go Go.RowKit Go.Deep
mutual
theorem sizeW_sz : ∀ (e : Ex), sizE e ≤ 1000000 → sizeW e = ((sizE e : Nat) : Int)
  | .mk _ _ _ _ _ l, h => by
    simp only [sizE] at h
    simp only [sizeW, sizE]
    rw [sizeL_sz l 1 (by omega) (by omega)]; omega
theorem sizeL_sz : ∀ (l : List Ex) (n : Int), 1 ≤ n → n + sizL l ≤ 1000001 → sizeL l n = n + ((sizL l : Nat) : Int)
  | [], n, _, _ => by simp [sizeL, sizL]
  | k :: r, n, h0, h => by
    simp only [sizL] at h
    have h1 := sizeW_sz k (by omega)
    simp only [sizeL, sizL, h1]
    have hw : wrap64 (n + ((sizE k : Nat) : Int)) = n + ((sizE k : Nat) : Int) := by unfold wrap64; omega
    rw [hw, sizeL_sz r _ (by omega) (by omega)]; omega
end
/-- What the law's calls give behind the tape. -/
structure TypedC (W0 : World) (e : Ex) (k : Int) (v : Vl) (a1 : Option Addr) (l1 c1 : Nat) (a2 : Option Addr) (n2 c2 : Nat) (a3 : Option Addr) (l3 c3 : Nat) : Prop where
  typ : ∀ W, Below W0.heap.size W0 W → Calls Tryd.prog 11 #[.slice a1 l1 c1, .agg #[.int .i64 e.op, .int .i64 e.ty, .int .i64 e.num, .string e.text, .int .i64 e.col, .slice a2 n2 c2]] W fun r w' => r = .returned (.tuple #[.int .i64 (tyK k e), .int .i64 (tyErr e)]) ∧ Cls W w'
  siz : ∀ W, Below W0.heap.size W0 W → Calls Tryd.prog 12 #[.agg #[.int .i64 e.op, .int .i64 e.ty, .int .i64 e.num, .string e.text, .int .i64 e.col, .slice a2 n2 c2]] W fun r w' => r = .returned (.int .i64 (sizE e : Nat)) ∧ Cls W w'
  evl : ∀ W, Below W0.heap.size W0 W → Calls Tryd.prog 13 #[.agg #[.int .i64 e.op, .int .i64 e.ty, .int .i64 e.num, .string e.text, .int .i64 e.col, .slice a2 n2 c2], .slice a3 l3 c3] W fun r w' => r = .returned (.agg #[.int .i64 v.k, .int .i64 v.n, .string v.s]) ∧ Cls W w'
  rev : ∀ W, Below W0.heap.size W0 W → Calls Tryd.prog 14 #[.agg #[.int .i64 e.op, .int .i64 e.ty, .int .i64 e.num, .string e.text, .int .i64 e.col, .slice a2 n2 c2], .slice a3 l3 c3] W fun r w' => r = .returned (.agg #[.int .i64 v.k, .int .i64 v.n, .string v.s]) ∧ Cls W w'
  val : ∀ W, Calls Tryd.prog 15 #[.agg #[.int .i64 v.k, .int .i64 v.n, .string v.s]] W fun r w' => r = .returned (.bool true) ∧ Cls W w'
theorem typed_c {T : Nat} {W0 : World} {e : Ex} {d : Nat} {k : Int} {ty : List Int} {row : List Vl} {a1 : Option Addr} {l1 c1 : Nat} {a2 : Option Addr} {n2 c2 : Nat} {a3 : Option Addr} {l3 c3 : Nat} {ok : Nat → Prop} (hm : Made ty d k e) (hd : d ≤ 6) (hk : IsTy k) (hty : TyL ty) (hf : e.fine) (hi : IntsAt T W0 a1 l1 c1 ty) (hkk : Kids W0 ok a2 n2 c2 e.kids) (hr : RowIs W0 a3 l3 c3 row) (hrt : RowTy ty row) (ho : OpsTab W0) :
    TypedC W0 e k (evalE e row) a1 l1 c1 a2 n2 c2 a3 l3 c3 := by
  have hb := hm.bounds
  have hb3 : sizE e ≤ 1000000 := Nat.le_trans hb.2 (Nat.le_trans (Nat.pow_le_pow_right (by decide) (show d + 1 ≤ 7 by omega)) (by decide))
  have hv := hm.value hrt
  have hs := okV_size hv
  refine ⟨fun W hW => Type_made (fun c hc => hty _ (getI_mem hc)) hm hk hd a1 l1 c1 a2 n2 c2 ok W ((NumIn.of hi).later hW) (hkk.later hW) (ho.later hW), fun W hW => ?_, fun W hW => Eval_calls e a2 n2 c2 ok a3 l3 c3 row W (hkk.later hW) hf (hr.later hW) (ho.later hW), fun W hW => REval_calls e a2 n2 c2 ok a3 l3 c3 row W (hkk.later hW) hf hm.slim (hr.later hW), fun W => ?_⟩
  · have := Size_calls e a2 n2 c2 ok W (hkk.later hW)
    rw [sizeW_sz e hb3] at this
    exact this
  · have := rValid_calls (evalE e row).k (evalE e row).n (evalE e row).s W (by unfold maxLen; omega)
    rw [hv.2] at this
    exact this
set_option maxHeartbeats 4000000 in
set_option maxRecDepth 20000 in
theorem expressionTyped_walk (B : Nat) (hE : ExprOf 5 B) (hB : B ≤ 10000) (a : Option Addr) (len cap : Nat) (w : World) (hn : NumsAt w a len) (ho : OpsTab w) :
    Calls Tryd.prog 3 #[.slice a len cap] w fun r w' => r = .returned (.bool true) ∧ Below w.heap.size w w' := by
  have H := Lib.hid (tape_new (cap := cap) hn)
  have HO := Lib.hid ho
  have HE := Lib.hid hE
  clear hn ho hE
  go_enter Tryd.func3, Tryd.ntmps3
  go_wp2_with (first | (go_at_call 7; ((with_reducible refine (Types_use w.heap.size 0 5 5 _ H.out (by omega) (by omega) (by omega) rfl).mono ?_); rintro e0 w1 hq; obtain ⟨ty, a1, c1, rfl, hl1, hl2, hty, hat, z1, rfl⟩ := hq; have HTY := Lib.hid hty; have HAT := Lib.hid hat; clear hty hat; have z1s := z1.size; simp at z1s)) | (go_at_call 8; ((with_reducible refine (Next_calls w.heap.size (0 + 1 + 5) 3 _ z1.at_ (by omega) (by omega) (by omega)).mono ?_); rintro e0 w1 hq; obtain ⟨rk, rfl, hrk, zb, rfl⟩ := hq; have zbs := zb.size; have hrk2 : rk ≤ 2 := (by omega); have hkk : IsTy (1 + (rk : Int)) := (by unfold IsTy; omega); clear hrk; have HKK := Lib.hid hkk; clear hkk)) | (go_at_call 9; ((with_reducible refine (HE.out.use w.heap.size (0 + 1 + 5 + 1) ty (1 + (rk : Int)) a1 _ c1 _ 5 rfl zb.at_ (HAT.out.tp zb.tp) HKK.out (by omega) (by omega)).mono ?_); rintro e0 w1 hq; obtain ⟨e, a2, n2, c2, rfl, hmade, hfine, hkids, z2, rfl⟩ := hq; have HM := Lib.hid hmade; have HF := Lib.hid hfine; have HK := Lib.hid hkids; clear hmade hfine hkids; have z2s := z2.size)) | (go_at_call 10; ((with_reducible refine (Row_calls w.heap.size _ ty a1 _ c1 _ (z2.at_.later ((Below.refl _ _).alloc (Nat.le_refl _) _)) (((HAT.out.tp zb.tp).tp z2.tp).tp ((Tp.refl _ _).alloc _)) HTY.out ?_ (by omega)).mono ?_); (· omega); rintro e0 w1 hq; obtain ⟨row, a3, c3, rfl, hr1, hr2, hrow, z3, rfl⟩ := hq; have z3s := z3.size; simp at z3s; have q1 : z2.val.heap.size ≠ w.heap.size := (by omega); have q2 : z2.val.heap.size < z3.val.heap.size := (by omega); have hT : w.heap.size < z3.val.heap.size := (by have := z3.at_.lt; omega); have hA3 : Tp w.heap.size w z3.val := z3.on ((z2.on (zb.on (z1.on ((Tp.refl _ _).alloc _)))).alloc _); have hk3 : Kids z3.val (fun _ => True) a2 n2 c2 e.kids := (Kids.up (lo := w.heap.size + 1) ((HK.out).low (by omega)) (Up.lat z3 ((Up.refl _ _).alloc _) (by omega))).any; have hg : 0 < w.heap.size := HO.out.1; have HRT : Hid (RowTy ty row) := Lib.hid ⟨hr1, hr2⟩; have HC := Lib.hid (typed_c HM.out (by omega) HKK.out HTY.out HF.out ((((HAT.out.tp zb.tp).tp z2.tp).tp ((Tp.refl _ _).alloc _)).tp z3.tp) hk3 hrow.row HRT.out (HO.out.tp hA3 (by omega))); have HV := Lib.hid (HM.out.value HRT.out); have HB3 : Hid (Below w.heap.size w z3.val) := Lib.hid (hA3.toBelow (Nat.le_refl _) (Nat.le_refl _)); clear hr1 hr2 hrow hA3 hk3 hg; generalize evalE e row = v at HC HV)) | (go_at_call 11; ((with_reducible refine (HC.out.typ _ ?_).mono ?_); (· (repeat first | with_reducible exact Below.refl _ _ | with_reducible refine Below.setCell ?_ (by first | omega | (simp; done) | (simp; omega)) _ | with_reducible refine Below.alloc ?_ (by first | omega | (simp; done) | (simp; omega)) _ | with_reducible refine Below.drew ?_ | with_reducible refine Ext.on _ ?_ (by first | omega | (simp; done) | (simp; omega)))); rintro e0 _ ⟨rfl, y1, rfl⟩; obtain ⟨l1, l2, l3, l4, l5⟩ := y1.lts q2; have y1s := y1.size)) | (go_at_call 12; ((with_reducible refine (HC.out.siz _ ?_).mono ?_); (· (repeat first | with_reducible exact Below.refl _ _ | with_reducible refine Below.setCell ?_ (by first | omega | (simp; done) | (simp; omega)) _ | with_reducible refine Below.alloc ?_ (by first | omega | (simp; done) | (simp; omega)) _ | with_reducible refine Below.drew ?_ | with_reducible refine Ext.on _ ?_ (by first | omega | (simp; done) | (simp; omega)))); rintro e0 _ ⟨rfl, y2, rfl⟩; obtain ⟨m1, m2, m3, m4, m5⟩ := y2.lts l1; have y2s := y2.size)) | (go_at_call 13; ((with_reducible refine (HC.out.evl _ ?_).mono ?_); (· (repeat first | with_reducible exact Below.refl _ _ | with_reducible refine Below.setCell ?_ (by first | omega | (simp; done) | (simp; omega)) _ | with_reducible refine Below.alloc ?_ (by first | omega | (simp; done) | (simp; omega)) _ | with_reducible refine Below.drew ?_ | with_reducible refine Ext.on _ ?_ (by first | omega | (simp; done) | (simp; omega)))); rintro e0 _ ⟨rfl, y3, rfl⟩; obtain ⟨n1, n2, n3, n4, n5⟩ := y3.lts m1; have y3s := y3.size)))
  · go_ret
    have he : tyErr e = 8 := by
      unfold tyErr
      rw [if_neg (by first | omega | (simp at *; omega))]
    refine ⟨ret_bool (by rw [he]; rfl), ?_⟩
    refine HB3.out.trans (Below.mono (B := z3.val.heap.size) ?_ HB3.out.size)
    repeat first | with_reducible exact Below.refl _ _ | with_reducible refine Below.setCell ?_ (by first | omega | (simp; done) | (simp; omega)) _ | with_reducible refine Below.alloc ?_ (by first | omega | (simp; done) | (simp; omega)) _ | with_reducible refine Below.drew ?_ | with_reducible refine Ext.on _ ?_ (by first | omega | (simp; done) | (simp; omega))
  · have hs : sizE e ≤ 200 := by first | omega | (simp at *; omega)
    have t1 : tyErr e = 0 := if_pos hs
    have t2 : tyK (1 + (rk : Int)) e = 1 + (rk : Int) := if_pos hs
    have b1 : (tyErr e == 0) = true := by rw [t1]; rfl
    have b2 : (tyK (1 + (rk : Int)) e == 1 + (rk : Int)) = true := by rw [t2]; simp
    obtain ⟨hvk, _⟩ := HV.out
    have hc : (v.k == 0) = true ∨ ((v.k == 0) = false ∧ (v.k == 1 + (rk : Int)) = true) := by
      rcases hvk with h | h
      · left; rw [h]; rfl
      · right; rw [h]; constructor
        · simp; omega
        · simp
    clear t1 t2 hs hvk
    rcases hc with c1 | ⟨c1, c2⟩
    all_goals
      refine wp_region_ext (by kernel_rfl) (by kernel_rfl) ?_
      repeat (go_big_quiet_step (first | (go_at_call 14; exact Cls.call (HC.out.rev _ (by repeat first | with_reducible exact Below.refl _ _ | with_reducible refine Below.setCell ?_ (by first | omega | (simp; done) | (simp; omega)) _ | with_reducible refine Below.alloc ?_ (by first | omega | (simp; done) | (simp; omega)) _ | with_reducible refine Below.drew ?_ | with_reducible refine Ext.on _ ?_ (by first | omega | (simp; done) | (simp; omega))))) | (go_at_call 15; exact Cls.call (HC.out.val _))))
      refine wpQuiet_nil ?_
      rintro _ ⟨t, rfl⟩
      go_wp2_with fail
      go_ret
      refine ⟨ret_bool rfl, ?_⟩
      refine HB3.out.trans (Below.mono (B := z3.val.heap.size) ?_ HB3.out.size)
      repeat first | with_reducible exact Below.refl _ _ | with_reducible refine Below.setCell ?_ (by first | omega | (simp; done) | (simp; omega)) _ | with_reducible refine Below.alloc ?_ (by first | omega | (simp; done) | (simp; omega)) _ | with_reducible refine Below.drew ?_ | with_reducible refine Ext.on _ ?_ (by first | omega | (simp; done) | (simp; omega))
end Go.Proofs.YtkmpaonakhfcjaaDoor
