/-
  The type of any expression.
-/
import Derived.Test.YtdmhmlnfoocnjaaGreatDoorK33
import Derived.Test.YtdmhmlnfoocnjaaGreatDoorK22
set_option linter.unusedVariables false
namespace Go.Proofs.YtdmhmlnfoocnjaaGreatDoor
open Go Go.RowKit Go.Deep
theorem sizL_mem {l : List Ex} : ∀ k ∈ l, sizE k ≤ sizL l := by
  induction l with
  | nil => intro k h; simp at h
  | cons x r ih =>
    intro k h
    simp only [sizL]
    rcases List.mem_cons.1 h with rfl | h
    · omega
    · have := ih k h; omega
theorem sizL_len : ∀ l : List Ex, l.length ≤ sizL l
  | [] => Nat.zero_le _
  | x :: r => by
    have := sizL_len r
    have := sizE_eq x
    simp only [sizL, List.length_cons]
    omega
theorem getD_map_ex {α : Type} (f : Ex → α) (l : List Ex) (j : Nat) (d : α) (h : j < l.length) : (l.map f).getD j d = f (l.getD j Ex.z) := by
  simp [List.getD, h]
theorem typeOf_calls (tys : List Int) : ∀ (e : Ex) (ta : Option Addr) (tlen tcap : Nat) (a : Option Addr) (len cap : Nat) (ok : Nat → Prop) (w : World), NumIn w ta tlen tcap tys → Kids w ok a len cap e.kids → e.text.size ≤ maxLen → sizE e ≤ 1000000 → OpsTab w →
    Calls Tryz.prog 135 #[.slice ta tlen tcap, .agg #[.int .i64 e.op, .int .i64 e.ty, .int .i64 e.num, .string e.text, .int .i64 e.col, .slice a len cap]] w fun r w' => r = .returned (.tuple #[.int .i64 (tyE tys e).1, .int .i64 (tyE tys e).2]) ∧ Cls w w' := by
  refine Ex.ind fun e ih => ?_
  intro ta tlen tcap a len cap ok w hty hk hs hz ho
  have hl := hk.len_eq
  have hsz := sizE_eq e
  have h := typeOfG_walk e (e.kids.map fun k => (tyE tys k).1) (e.kids.map fun k => (tyE tys k).2) tys ta tlen tcap a len cap ok w hty hk (by rw [List.length_map, hl]) (by rw [List.length_map, hl]) (by have := sizL_len e.kids; omega) hs ho fun j hj a' len' cap' W h1 h2 h3 => by
    have hj' : j < e.kids.length := by omega
    have hm := getD_mem hj'
    rw [getD_map_ex _ _ _ _ hj', getD_map_ex _ _ _ _ hj']
    obtain ⟨_, _, _, _, hf, _⟩ := hk.at_ hj
    exact ih _ hm ta tlen tcap a' len' cap' ok W h1 h2 hf.2.2.2.1 (by have := sizL_mem _ hm; omega) h3
  rw [← tyE_eq] at h
  exact h
theorem typed_calls (tys : List Int) : ∀ (e : Ex) (ta : Option Addr) (tlen tcap : Nat) (a : Option Addr) (len cap : Nat) (ok : Nat → Prop) (w : World), NumIn w ta tlen tcap tys → Kids w ok a len cap e.kids → e.text.size ≤ maxLen → sizE e ≤ 1000000 →
    Calls Tryz.prog 100 #[.slice ta tlen tcap, .agg #[.int .i64 e.op, .int .i64 e.ty, .int .i64 e.num, .string e.text, .int .i64 e.col, .slice a len cap]] w fun r w' => r = .returned (.tuple #[.int .i64 (tyE tys e).1, .int .i64 (tyE tys e).2]) ∧ Cls w w' := by
  refine Ex.ind fun e ih => ?_
  intro ta tlen tcap a len cap ok w hty hk hs hz
  have hl := hk.len_eq
  have hsz := sizE_eq e
  have h := typed_walk e (e.kids.map fun k => (tyE tys k).1) (e.kids.map fun k => (tyE tys k).2) tys ta tlen tcap a len cap ok w hty hk (by rw [List.length_map, hl]) (by rw [List.length_map, hl]) (by have := sizL_len e.kids; omega) hs fun j hj a' len' cap' W h1 h2 => by
    have hj' : j < e.kids.length := by omega
    have hm := getD_mem hj'
    rw [getD_map_ex _ _ _ _ hj', getD_map_ex _ _ _ _ hj']
    obtain ⟨_, _, _, _, hf, _⟩ := hk.at_ hj
    exact ih _ hm ta tlen tcap a' len' cap' ok W h1 h2 hf.2.2.2.1 (by have := sizL_mem _ hm; omega)
  have e1 : (if fstI (e.kids.map fun k => (tyE tys k).2) = 0 then nodeR tys e.op e.ty e.num e.text e.col (e.kids.map fun k => (tyE tys k).1) else (0, fstI (e.kids.map fun k => (tyE tys k).2))) = tyE tys e := by
    rw [tyE_eq]
    by_cases h0 : fstI (e.kids.map fun k => (tyE tys k).2) = 0
    · rw [if_pos h0, if_pos h0]
      refine node_eq _ _ _ _ _ _ _ fun k hk => ?_
      obtain ⟨x, hx, rfl⟩ := List.mem_map.1 hk
      exact tyE_type tys x (fstI_zero h0 _ (List.mem_map.2 ⟨x, hx, rfl⟩))
    · rw [if_neg h0, if_neg h0]
  rw [e1] at h
  exact h
def tyT (tys : List Int) (e : Ex) : Int × Int := if 200 < sizE e then (0, 8) else if 24 < depE e then (0, 13) else tyE tys e
theorem tyT_is (tys : List Int) (e : Ex) : (200 < sizE e → tyT tys e = (0, 8)) ∧ (¬ 200 < sizE e → 24 < depE e → tyT tys e = (0, 13)) ∧ (¬ 200 < sizE e → ¬ 24 < depE e → tyT tys e = tyE tys e) := by
  unfold tyT
  exact ⟨fun h => if_pos h, fun h1 h2 => by rw [if_neg h1, if_pos h2], fun h1 h2 => by rw [if_neg h1, if_neg h2]⟩
set_option maxHeartbeats 4000000 in
theorem TypeG_calls (tys : List Int) (e : Ex) (ta : Option Addr) (tlen tcap : Nat) (a : Option Addr) (len cap : Nat) (ok : Nat → Prop) (w : World) (hty : NumIn w ta tlen tcap tys) (hk : Kids w ok a len cap e.kids) (hs : e.text.size ≤ maxLen) (hz : sizE e ≤ 1000000) (hd : depE e ≤ 1000) (ho : OpsTab w) :
    Calls Tryz.prog 109 #[.slice ta tlen tcap, .agg #[.int .i64 e.op, .int .i64 e.ty, .int .i64 e.num, .string e.text, .int .i64 e.col, .slice a len cap]] w fun r w' => r = .returned (.tuple #[.int .i64 (tyT tys e).1, .int .i64 (tyT tys e).2]) ∧ Cls w w' := by
  obtain ⟨t1, t2, t3⟩ := tyT_is tys e
  obtain ⟨u1, u2, u3⟩ := upE_bd e 200 (by decide)
  have C1 : Hid (∀ W, Below w.heap.size w W → Calls Tryz.prog 133 #[.int .i64 200, .agg #[.int .i64 e.op, .int .i64 e.ty, .int .i64 e.num, .string e.text, .int .i64 e.col, .slice a len cap]] W fun r w' => r = .returned (.int .i64 (upE e 200)) ∧ Cls W w') := Lib.hid (fun W hW => sizeUpTo_calls e 200 a len cap ok W (hk.later hW) hz (by decide) (by decide))
  have C2 : Hid (∀ W, Below w.heap.size w W → Calls Tryz.prog 134 #[.agg #[.int .i64 e.op, .int .i64 e.ty, .int .i64 e.num, .string e.text, .int .i64 e.col, .slice a len cap]] W fun r w' => r = .returned (.int .i64 (depE e : Nat)) ∧ Cls W w') := Lib.hid (fun W hW => Depth_calls e a len cap ok W (hk.later hW) hd)
  have C3 : Hid (∀ W, Below w.heap.size w W → Calls Tryz.prog 135 #[.slice ta tlen tcap, .agg #[.int .i64 e.op, .int .i64 e.ty, .int .i64 e.num, .string e.text, .int .i64 e.col, .slice a len cap]] W fun r w' => r = .returned (.tuple #[.int .i64 (tyE tys e).1, .int .i64 (tyE tys e).2]) ∧ Cls W w') := Lib.hid (fun W hW => typeOf_calls tys e ta tlen tcap a len cap ok W (hty.later hW) (hk.later hW) hs hz (ho.later hW))
  clear hty hk hs ho
  generalize tyT tys e = tt at *
  generalize tyE tys e = te at *
  by_cases h1 : 200 < sizE e
  · rw [t1 h1]
    have d1 : decide (200 < upE e 200) = true := by simp; omega
    clear t1 t2 t3 h1
    go_enter Tryz.func109, Tryz.ntmps109
    go_wp2_with (go_at_call 133; ((with_reducible refine (C1.out _ (by repeat first|with_reducible exact Below.refl _ _|with_reducible refine Below.setCell ?_ (by first|omega|(simp;done)|(simp;omega)) _|with_reducible refine Below.alloc ?_ (by first|omega|(simp;done)|(simp;omega)) _|with_reducible refine Below.drew ?_|with_reducible refine Ext.on _ ?_ (by first|omega|(simp;done)|(simp;omega)))).mono ?_); rintro r _ ⟨rfl, y1, rfl⟩))
    go_ret2
    refine ⟨rfl, Cls.of ?_⟩
    repeat first|with_reducible exact Below.refl _ _|with_reducible refine Below.setCell ?_ (by first|omega|(simp;done)|(simp;omega)) _|with_reducible refine Below.alloc ?_ (by first|omega|(simp;done)|(simp;omega)) _|with_reducible refine Below.drew ?_|with_reducible refine Ext.on _ ?_ (by first|omega|(simp;done)|(simp;omega))
  have d1 : decide (200 < upE e 200) = false := by simp; omega
  by_cases h2 : 24 < depE e
  · rw [t2 h1 h2]
    have d2 : decide ((24 : Int) < ((depE e : Nat) : Int)) = true := by simp; omega
    clear t1 t2 t3 h1 h2
    go_enter Tryz.func109, Tryz.ntmps109
    go_wp2_with (first | (go_at_call 133; ((with_reducible refine (C1.out _ (by repeat first|with_reducible exact Below.refl _ _|with_reducible refine Below.setCell ?_ (by first|omega|(simp;done)|(simp;omega)) _|with_reducible refine Below.alloc ?_ (by first|omega|(simp;done)|(simp;omega)) _|with_reducible refine Below.drew ?_|with_reducible refine Ext.on _ ?_ (by first|omega|(simp;done)|(simp;omega)))).mono ?_); rintro r _ ⟨rfl, y1, rfl⟩; obtain ⟨l1, l2, l3, l4, l5⟩ := y1.lts (b := w.heap.size) (by simp))) | (go_at_call 134; ((with_reducible refine (C2.out _ (by repeat first|with_reducible exact Below.refl _ _|with_reducible refine Below.setCell ?_ (by first|omega|(simp;done)|(simp;omega)) _|with_reducible refine Below.alloc ?_ (by first|omega|(simp;done)|(simp;omega)) _|with_reducible refine Below.drew ?_|with_reducible refine Ext.on _ ?_ (by first|omega|(simp;done)|(simp;omega)))).mono ?_); rintro r _ ⟨rfl, y2, rfl⟩)))
    go_ret2
    refine ⟨rfl, Cls.of ?_⟩
    repeat first|with_reducible exact Below.refl _ _|with_reducible refine Below.setCell ?_ (by first|omega|(simp;done)|(simp;omega)) _|with_reducible refine Below.alloc ?_ (by first|omega|(simp;done)|(simp;omega)) _|with_reducible refine Below.drew ?_|with_reducible refine Ext.on _ ?_ (by first|omega|(simp;done)|(simp;omega))
  have d2 : decide ((24 : Int) < ((depE e : Nat) : Int)) = false := by simp; omega
  rw [t3 h1 h2]
  clear t1 t2 t3 h1 h2
  go_enter Tryz.func109, Tryz.ntmps109
  go_wp2_with (first | (go_at_call 133; ((with_reducible refine (C1.out _ (by repeat first|with_reducible exact Below.refl _ _|with_reducible refine Below.setCell ?_ (by first|omega|(simp;done)|(simp;omega)) _|with_reducible refine Below.alloc ?_ (by first|omega|(simp;done)|(simp;omega)) _|with_reducible refine Below.drew ?_|with_reducible refine Ext.on _ ?_ (by first|omega|(simp;done)|(simp;omega)))).mono ?_); rintro r _ ⟨rfl, y1, rfl⟩; obtain ⟨l1, l2, l3, l4, l5⟩ := y1.lts (b := w.heap.size) (by simp))) | (go_at_call 134; ((with_reducible refine (C2.out _ (by repeat first|with_reducible exact Below.refl _ _|with_reducible refine Below.setCell ?_ (by first|omega|(simp;done)|(simp;omega)) _|with_reducible refine Below.alloc ?_ (by first|omega|(simp;done)|(simp;omega)) _|with_reducible refine Below.drew ?_|with_reducible refine Ext.on _ ?_ (by first|omega|(simp;done)|(simp;omega)))).mono ?_); rintro r _ ⟨rfl, y2, rfl⟩; obtain ⟨m1, m2, m3, m4, m5⟩ := y2.lts (b := w.heap.size) (by omega))) | (go_at_call 135; ((with_reducible refine (C3.out _ (by repeat first|with_reducible exact Below.refl _ _|with_reducible refine Below.setCell ?_ (by first|omega|(simp;done)|(simp;omega)) _|with_reducible refine Below.alloc ?_ (by first|omega|(simp;done)|(simp;omega)) _|with_reducible refine Below.drew ?_|with_reducible refine Ext.on _ ?_ (by first|omega|(simp;done)|(simp;omega)))).mono ?_); rintro r _ ⟨rfl, y3, rfl⟩)))
  go_ret2
  refine ⟨rfl, Cls.of ?_⟩
  repeat first|with_reducible exact Below.refl _ _|with_reducible refine Below.setCell ?_ (by first|omega|(simp;done)|(simp;omega)) _|with_reducible refine Below.alloc ?_ (by first|omega|(simp;done)|(simp;omega)) _|with_reducible refine Below.drew ?_|with_reducible refine Ext.on _ ?_ (by first|omega|(simp;done)|(simp;omega))
set_option maxHeartbeats 4000000 in
theorem rTypeG_calls (tys : List Int) (e : Ex) (ta : Option Addr) (tlen tcap : Nat) (a : Option Addr) (len cap : Nat) (ok : Nat → Prop) (w : World) (hty : NumIn w ta tlen tcap tys) (hk : Kids w ok a len cap e.kids) (hs : e.text.size ≤ maxLen) (hz : sizE e ≤ 1000000) (hd : depE e ≤ 1000) :
    Calls Tryz.prog 66 #[.slice ta tlen tcap, .agg #[.int .i64 e.op, .int .i64 e.ty, .int .i64 e.num, .string e.text, .int .i64 e.col, .slice a len cap]] w fun r w' => r = .returned (.tuple #[.int .i64 (tyT tys e).1, .int .i64 (tyT tys e).2]) ∧ Cls w w' := by
  obtain ⟨t1, t2, t3⟩ := tyT_is tys e
  have C1 : Hid (∀ W, Below w.heap.size w W → Calls Tryz.prog 62 #[.agg #[.int .i64 e.op, .int .i64 e.ty, .int .i64 e.num, .string e.text, .int .i64 e.col, .slice a len cap]] W fun r w' => r = .returned (.int .i64 (sizE e : Nat)) ∧ Cls W w') := Lib.hid (fun W hW => rSize_calls e a len cap ok W (hk.later hW) hz)
  have C2 : Hid (∀ W, Below w.heap.size w W → Calls Tryz.prog 99 #[.agg #[.int .i64 e.op, .int .i64 e.ty, .int .i64 e.num, .string e.text, .int .i64 e.col, .slice a len cap]] W fun r w' => r = .returned (.int .i64 (depE e : Nat)) ∧ Cls W w') := Lib.hid (fun W hW => rDepth_calls e a len cap ok W (hk.later hW) hd)
  have C3 : Hid (∀ W, Below w.heap.size w W → Calls Tryz.prog 100 #[.slice ta tlen tcap, .agg #[.int .i64 e.op, .int .i64 e.ty, .int .i64 e.num, .string e.text, .int .i64 e.col, .slice a len cap]] W fun r w' => r = .returned (.tuple #[.int .i64 (tyE tys e).1, .int .i64 (tyE tys e).2]) ∧ Cls W w') := Lib.hid (fun W hW => typed_calls tys e ta tlen tcap a len cap ok W (hty.later hW) (hk.later hW) hs hz)
  clear hty hk hs
  generalize tyT tys e = tt at *
  generalize tyE tys e = te at *
  by_cases h1 : 200 < sizE e
  · rw [t1 h1]
    have d1 : decide (200 < ((sizE e : Nat) : Int)) = true := by simp; omega
    clear t1 t2 t3 h1
    go_enter Tryz.func66, Tryz.ntmps66
    go_wp2_with (go_at_call 62; ((with_reducible refine (C1.out _ (by repeat first|with_reducible exact Below.refl _ _|with_reducible refine Below.setCell ?_ (by first|omega|(simp;done)|(simp;omega)) _|with_reducible refine Below.alloc ?_ (by first|omega|(simp;done)|(simp;omega)) _|with_reducible refine Below.drew ?_|with_reducible refine Ext.on _ ?_ (by first|omega|(simp;done)|(simp;omega)))).mono ?_); rintro r _ ⟨rfl, y1, rfl⟩))
    go_ret2
    refine ⟨rfl, Cls.of ?_⟩
    repeat first|with_reducible exact Below.refl _ _|with_reducible refine Below.setCell ?_ (by first|omega|(simp;done)|(simp;omega)) _|with_reducible refine Below.alloc ?_ (by first|omega|(simp;done)|(simp;omega)) _|with_reducible refine Below.drew ?_|with_reducible refine Ext.on _ ?_ (by first|omega|(simp;done)|(simp;omega))
  have d1 : decide (200 < ((sizE e : Nat) : Int)) = false := by simp; omega
  by_cases h2 : 24 < depE e
  · rw [t2 h1 h2]
    have d2 : decide ((24 : Int) < ((depE e : Nat) : Int)) = true := by simp; omega
    clear t1 t2 t3 h1 h2
    go_enter Tryz.func66, Tryz.ntmps66
    go_wp2_with (first | (go_at_call 62; ((with_reducible refine (C1.out _ (by repeat first|with_reducible exact Below.refl _ _|with_reducible refine Below.setCell ?_ (by first|omega|(simp;done)|(simp;omega)) _|with_reducible refine Below.alloc ?_ (by first|omega|(simp;done)|(simp;omega)) _|with_reducible refine Below.drew ?_|with_reducible refine Ext.on _ ?_ (by first|omega|(simp;done)|(simp;omega)))).mono ?_); rintro r _ ⟨rfl, y1, rfl⟩; obtain ⟨l1, l2, l3, l4, l5⟩ := y1.lts (b := w.heap.size) (by simp))) | (go_at_call 99; ((with_reducible refine (C2.out _ (by repeat first|with_reducible exact Below.refl _ _|with_reducible refine Below.setCell ?_ (by first|omega|(simp;done)|(simp;omega)) _|with_reducible refine Below.alloc ?_ (by first|omega|(simp;done)|(simp;omega)) _|with_reducible refine Below.drew ?_|with_reducible refine Ext.on _ ?_ (by first|omega|(simp;done)|(simp;omega)))).mono ?_); rintro r _ ⟨rfl, y2, rfl⟩)))
    go_ret2
    refine ⟨rfl, Cls.of ?_⟩
    repeat first|with_reducible exact Below.refl _ _|with_reducible refine Below.setCell ?_ (by first|omega|(simp;done)|(simp;omega)) _|with_reducible refine Below.alloc ?_ (by first|omega|(simp;done)|(simp;omega)) _|with_reducible refine Below.drew ?_|with_reducible refine Ext.on _ ?_ (by first|omega|(simp;done)|(simp;omega))
  have d2 : decide ((24 : Int) < ((depE e : Nat) : Int)) = false := by simp; omega
  rw [t3 h1 h2]
  clear t1 t2 t3 h1 h2
  go_enter Tryz.func66, Tryz.ntmps66
  go_wp2_with (first | (go_at_call 62; ((with_reducible refine (C1.out _ (by repeat first|with_reducible exact Below.refl _ _|with_reducible refine Below.setCell ?_ (by first|omega|(simp;done)|(simp;omega)) _|with_reducible refine Below.alloc ?_ (by first|omega|(simp;done)|(simp;omega)) _|with_reducible refine Below.drew ?_|with_reducible refine Ext.on _ ?_ (by first|omega|(simp;done)|(simp;omega)))).mono ?_); rintro r _ ⟨rfl, y1, rfl⟩; obtain ⟨l1, l2, l3, l4, l5⟩ := y1.lts (b := w.heap.size) (by simp))) | (go_at_call 99; ((with_reducible refine (C2.out _ (by repeat first|with_reducible exact Below.refl _ _|with_reducible refine Below.setCell ?_ (by first|omega|(simp;done)|(simp;omega)) _|with_reducible refine Below.alloc ?_ (by first|omega|(simp;done)|(simp;omega)) _|with_reducible refine Below.drew ?_|with_reducible refine Ext.on _ ?_ (by first|omega|(simp;done)|(simp;omega)))).mono ?_); rintro r _ ⟨rfl, y2, rfl⟩; obtain ⟨m1, m2, m3, m4, m5⟩ := y2.lts (b := w.heap.size) (by omega))) | (go_at_call 100; ((with_reducible refine (C3.out _ (by repeat first|with_reducible exact Below.refl _ _|with_reducible refine Below.setCell ?_ (by first|omega|(simp;done)|(simp;omega)) _|with_reducible refine Below.alloc ?_ (by first|omega|(simp;done)|(simp;omega)) _|with_reducible refine Below.drew ?_|with_reducible refine Ext.on _ ?_ (by first|omega|(simp;done)|(simp;omega)))).mono ?_); rintro r _ ⟨rfl, y3, rfl⟩)))
  go_ret2
  refine ⟨rfl, Cls.of ?_⟩
  repeat first|with_reducible exact Below.refl _ _|with_reducible refine Below.setCell ?_ (by first|omega|(simp;done)|(simp;omega)) _|with_reducible refine Below.alloc ?_ (by first|omega|(simp;done)|(simp;omega)) _|with_reducible refine Below.drew ?_|with_reducible refine Ext.on _ ?_ (by first|omega|(simp;done)|(simp;omega))
end Go.Proofs.YtdmhmlnfoocnjaaGreatDoor
