/-
  When two expressions are equal: the program's Same and the reference's give the same Bool for all expressions.
-/
import Derived.Test.YtbnhmjecjeifdaaDoorTree
import Derived.BigQuiet
set_option linter.unusedVariables false
namespace Go.Proofs.YtbnhmjecjeifdaaDoor
open Go Go.RowKit
def headB (e e' : Ex) : Bool := decide (e.op = e'.op) && decide (e.ty = e'.ty) && decide (e.num = e'.num) && decide (e.text.toList = e'.text.toList) && decide (e.col = e'.col)
mutual
def sameE : Ex → Ex → Bool
  | .mk o t n s c l, .mk o' t' n' s' c' l' => if headB (.mk o t n s c []) (.mk o' t' n' s' c' []) = true then sameL l l' else false
def sameL : List Ex → List Ex → Bool
  | [], [] => true
  | [], _ :: _ => false
  | _ :: _, [] => false
  | k :: r, k' :: r' => if sameE k k' = true then sameL r r' else false
end
theorem sameE_eq (e e' : Ex) : sameE e e' = if headB e e' = true then sameL e.kids e'.kids else false := by
  cases e; cases e'; unfold sameE; rfl
theorem sameL_go {l l' : List Ex} {j : Nat} (h : j < l.length) (h' : j < l'.length) (hs : sameE (l.getD j Ex.z) (l'.getD j Ex.z) = true) : sameL (l.drop j) (l'.drop j) = sameL (l.drop (j + 1)) (l'.drop (j + 1)) := by
  rw [dropE h, dropE h', sameL, if_pos hs]
theorem sameL_stop {l l' : List Ex} {j : Nat} (h : j < l.length) (h' : j < l'.length) (hs : sameE (l.getD j Ex.z) (l'.getD j Ex.z) = false) : sameL (l.drop j) (l'.drop j) = false := by
  rw [dropE h, dropE h', sameL, if_neg (by rw [hs]; exact Bool.false_ne_true)]
theorem sameL_len : ∀ (l l' : List Ex), l.length ≠ l'.length → sameL l l' = false
  | [], [], h => absurd rfl h
  | [], _ :: _, _ => by rw [sameL]
  | _ :: _, [], _ => by rw [sameL]
  | k :: r, k' :: r', h => by
    rw [sameL]
    split
    · exact sameL_len r r' (by simpa using h)
    · rfl
theorem sameL_end {l l' : List Ex} {j : Nat} (h : l.length ≤ j) (h' : l'.length ≤ j) : sameL (l.drop j) (l'.drop j) = true := by
  rw [List.drop_of_length_le h, List.drop_of_length_le h', sameL]
theorem headB_self (e : Ex) : headB e e = true := by simp [headB]
theorem sameL_self (l : List Ex) (h : ∀ k ∈ l, sameE k k = true) : sameL l l = true := by
  induction l with
  | nil => rw [sameL]
  | cons k r ih => rw [sameL, if_pos (h k (List.mem_cons_self ..))]; exact ih fun x hx => h x (List.mem_cons_of_mem _ hx)
theorem sameE_self (e : Ex) : sameE e e = true := by
  refine Ex.ind (M := fun e => sameE e e = true) (fun e ih => ?_) e
  rw [sameE_eq, if_pos (headB_self e)]
  exact sameL_self _ ih
theorem headB_no {e e' : Ex} (h : headB e e' = false) : ¬ (e.op = e'.op ∧ e.ty = e'.ty ∧ e.num = e'.num ∧ e.text.toList = e'.text.toList ∧ e.col = e'.col) := by
  rintro ⟨h1, h2, h3, h4, h5⟩
  simp [headB, h1, h2, h3, h4, h5] at h
theorem headB_yes {e e' : Ex} (h : headB e e' = true) : e.op = e'.op ∧ e.ty = e'.ty ∧ e.num = e'.num ∧ e.text.toList = e'.text.toList ∧ e.col = e'.col := by
  simpa [headB, and_assoc] using h

def SameOf (e : Ex) : Prop := ∀ (e' : Ex) (a : Option Addr) (len cap : Nat) (a' : Option Addr) (len' cap' : Nat) (ok ok' : Nat → Prop) (w : World), Kids w ok a len cap e.kids → Kids w ok' a' len' cap' e'.kids →
    Calls Tryd.prog 195 #[.agg #[.int .i64 e.op, .int .i64 e.ty, .int .i64 e.num, .string e.text, .int .i64 e.col, .slice a len cap], .agg #[.int .i64 e'.op, .int .i64 e'.ty, .int .i64 e'.num, .string e'.text, .int .i64 e'.col, .slice a' len' cap']] w fun r w' => r = .returned (.bool (sameE e e')) ∧ Cls w w'
set_option maxHeartbeats 4000000 in
theorem EqualFunc_calls (l l' : List Ex) (ih : ∀ k ∈ l, SameOf k) (a : Option Addr) (len cap : Nat) (a' : Option Addr) (len' cap' : Nat) (ok ok' : Nat → Prop) (w : World) (hk : Kids w ok a len cap l) (hk' : Kids w ok' a' len' cap' l') :
    Calls Tryd.prog 233 #[.slice a len cap, .slice a' len' cap', .func (.func 195) #[] #[]] w fun r w' => r = .returned (.bool (sameL l l')) ∧ Cls w w' := by
  have hlen := hk.len_eq
  have hlen' := hk'.len_eq
  have hle := hk.le
  have hmax := hk.max
  have hle' := hk'.le
  have hmax' := hk'.max
  unfold maxLen at hmax hmax'
  have HL := Lib.hid hlen
  have HL' := Lib.hid hlen'
  clear hlen hlen'
  by_cases hll : len = len'
  · have b5 : ((len : Int) != (len' : Int)) = false := by rw [hll]; simp
    have HLL := Lib.hid hll
    clear hll
    go_enter Tryd.func233, Tryd.ntmps233
    go_wp2_with fail
    go_loopw [17] (fun i wr => ∃ j : Nat, j ≤ len ∧ i = .int .i64 j ∧ sameL l l' = sameL (l.drop j) (l'.drop j) ∧ Cls w wr) (fun i _ => len - (intOf i).toNat)
    case atStart => exact ⟨0, Nat.zero_le _, rfl, rfl, Cls.of (Below.refl _ _)⟩
    case round =>
      obtain ⟨j, hj, rfl, he, x, rfl⟩ := hrel
      have HE := Lib.hid he
      clear he
      by_cases hlt : j < len
      · have hlt' : j < len' := by have := HLL.out; omega
        obtain ⟨a1, len1, cap1, ⟨b, off, rfl, hb, hok, q0, q1, q2, q3, q4, q5⟩, hfine, hk1⟩ := hk.at_ hlt
        obtain ⟨a2, len2, cap2, ⟨b', off', rfl, hb', hok', r0, r1, r2, r3, r4, r5⟩, hfine', hk2⟩ := hk'.at_ hlt'
        obtain ⟨l1, l2, l3, l4, l5⟩ := x.lts hb
        have xs := x.size
        obtain ⟨m1, m2, m3, m4, m5⟩ := x.lts hb'
        have hmem := getD_mem (l := l) (i := j) (by rw [HL.out]; exact hlt)
        have C1 : Hid (∀ W, Below w.heap.size w W → Calls Tryd.prog 195 #[.agg #[.int .i64 (l.getD j Ex.z).op, .int .i64 (l.getD j Ex.z).ty, .int .i64 (l.getD j Ex.z).num, .string (l.getD j Ex.z).text, .int .i64 (l.getD j Ex.z).col, .slice a1 len1 cap1], .agg #[.int .i64 (l'.getD j Ex.z).op, .int .i64 (l'.getD j Ex.z).ty, .int .i64 (l'.getD j Ex.z).num, .string (l'.getD j Ex.z).text, .int .i64 (l'.getD j Ex.z).col, .slice a2 len2 cap2]] W fun r w' => r = .returned (.bool (sameE (l.getD j Ex.z) (l'.getD j Ex.z))) ∧ Cls W w') := Lib.hid (fun W hW => ih _ hmem _ a1 len1 cap1 a2 len2 cap2 ok ok' W (hk1.later hW) (hk2.later hW))
        clear hk hk' hk1 hk2 hfine hfine' hmem ih
        cases hb3 : sameE (l.getD j Ex.z) (l'.getD j Ex.z)
        all_goals
          have HB := Lib.hid hb3
          rw [hb3] at C1
          clear hb3
          go_wp2_with (go_at_call 195; ((refine (C1.out _ (by repeat first | with_reducible exact Below.refl _ _ | with_reducible refine Below.setCell ?_ (by first | omega | (simp; done) | (simp; omega)) _ | with_reducible refine Below.alloc ?_ (by first | omega | (simp; done) | (simp; omega)) _ | with_reducible refine Below.drew ?_ | with_reducible refine Ext.on _ ?_ (by first | omega | (simp; done) | (simp; omega)))).mono ?_); rintro r _ ⟨rfl, y, rfl⟩))
        · go_ret
          refine ⟨ret_bool (by rw [HE.out, sameL_stop (by rw [HL.out]; exact hlt) (by rw [HL'.out]; exact hlt') HB.out]), Cls.of ?_⟩
          repeat first | with_reducible exact Below.refl _ _ | with_reducible refine Below.setCell ?_ (by first | omega | (simp; done) | (simp; omega)) _ | with_reducible refine Below.alloc ?_ (by first | omega | (simp; done) | (simp; omega)) _ | with_reducible refine Below.drew ?_ | with_reducible refine Ext.on _ ?_ (by first | omega | (simp; done) | (simp; omega))
        · go_roundw
          case rel =>
            refine ⟨j + 1, by omega, by go_num, by rw [HE.out, sameL_go (by rw [HL.out]; exact hlt) (by rw [HL'.out]; exact hlt') HB.out], Cls.of ?_⟩
            repeat first | with_reducible exact Below.refl _ _ | with_reducible refine Below.setCell ?_ (by first | omega | (simp; done) | (simp; omega)) _ | with_reducible refine Below.alloc ?_ (by first | omega | (simp; done) | (simp; omega)) _ | with_reducible refine Below.drew ?_ | with_reducible refine Ext.on _ ?_ (by first | omega | (simp; done) | (simp; omega))
          case measure => simp [intOf]; omega
      · go_wp2_with fail
        go_ret
        refine ⟨ret_bool (by rw [HE.out, sameL_end (by rw [HL.out]; omega) (by rw [HL'.out, ← HLL.out]; omega)]), Cls.of ?_⟩
        repeat first | with_reducible exact Below.refl _ _ | with_reducible refine Below.setCell ?_ (by first | omega | (simp; done) | (simp; omega)) _ | with_reducible refine Below.alloc ?_ (by first | omega | (simp; done) | (simp; omega)) _ | with_reducible refine Below.drew ?_ | with_reducible refine Ext.on _ ?_ (by first | omega | (simp; done) | (simp; omega))
  · have HR : Hid (sameL l l' = false) := Lib.hid (sameL_len _ _ (by rw [HL.out, HL'.out]; exact hll))
    have b5 : ((len : Int) != (len' : Int)) = true := by simpa using fun h => hll (by omega)
    clear hll ih hk hk'
    go_enter Tryd.func233, Tryd.ntmps233
    go_wp2_with fail
    all_goals
      go_ret
      refine ⟨ret_bool HR.out.symm, Cls.of ?_⟩
      repeat first | with_reducible exact Below.refl _ _ | with_reducible refine Below.setCell ?_ (by first | omega | (simp; done) | (simp; omega)) _ | with_reducible refine Below.alloc ?_ (by first | omega | (simp; done) | (simp; omega)) _ | with_reducible refine Below.drew ?_ | with_reducible refine Ext.on _ ?_ (by first | omega | (simp; done) | (simp; omega))
set_option maxHeartbeats 4000000 in
theorem Same_calls : ∀ e : Ex, SameOf e := by
  refine Ex.ind fun e ih => ?_
  intro e' a len cap a' len' cap' ok ok' w hk hk'
  have HS := Lib.hid (sameE_eq e e')
  have C1 : Hid (∀ W, Below w.heap.size w W → Calls Tryd.prog 233 #[.slice a len cap, .slice a' len' cap', .func (.func 195) #[] #[]] W fun r w' => r = .returned (.bool (sameL e.kids e'.kids)) ∧ Cls W w') := Lib.hid (fun W hW => EqualFunc_calls _ _ ih a len cap a' len' cap' ok ok' W (hk.later hW) (hk'.later hW))
  clear hk hk' ih
  by_cases hh : headB e e' = true
  · have HR : Hid (sameE e e' = sameL e.kids e'.kids) := Lib.hid (by rw [HS.out, if_pos hh])
    obtain ⟨g0, g1, g2, g3, g4⟩ := headB_yes hh
    have b0 : (e.op == e'.op) = true := by simpa using g0
    have b1 : (e.ty == e'.ty) = true := by simpa using g1
    have b2 : (e.num == e'.num) = true := by simpa using g2
    have b4 : (e.col == e'.col) = true := by simpa using g4
    clear g0 g1 g2 g4 hh HS
    go_enter Tryd.func195, Tryd.ntmps195
    go_wp2_with (go_at_call 233; ((refine (C1.out _ (by repeat first | with_reducible exact Below.refl _ _ | with_reducible refine Below.setCell ?_ (by first | omega | (simp; done) | (simp; omega)) _ | with_reducible refine Below.alloc ?_ (by first | omega | (simp; done) | (simp; omega)) _ | with_reducible refine Below.drew ?_ | with_reducible refine Ext.on _ ?_ (by first | omega | (simp; done) | (simp; omega)))).mono ?_); rintro r _ ⟨rfl, y, rfl⟩))
    go_ret
    refine ⟨ret_bool HR.out.symm, Cls.of ?_⟩
    repeat first | with_reducible exact Below.refl _ _ | with_reducible refine Below.setCell ?_ (by first | omega | (simp; done) | (simp; omega)) _ | with_reducible refine Below.alloc ?_ (by first | omega | (simp; done) | (simp; omega)) _ | with_reducible refine Below.drew ?_ | with_reducible refine Ext.on _ ?_ (by first | omega | (simp; done) | (simp; omega))
  · have HR : Hid (sameE e e' = false) := Lib.hid (by rw [HS.out, if_neg hh])
    have HN := Lib.hid (headB_no (by simpa using hh))
    clear hh HS
    go_enter Tryd.func195, Tryd.ntmps195
    go_wp2_with fail
    all_goals first
      | exact (HN.out ⟨by assumption, by assumption, by assumption, by assumption, by assumption⟩).elim
      | (go_ret
         refine ⟨ret_bool HR.out.symm, Cls.of ?_⟩
         repeat first | with_reducible exact Below.refl _ _ | with_reducible refine Below.setCell ?_ (by first | omega | (simp; done) | (simp; omega)) _ | with_reducible refine Below.alloc ?_ (by first | omega | (simp; done) | (simp; omega)) _ | with_reducible refine Below.drew ?_ | with_reducible refine Ext.on _ ?_ (by first | omega | (simp; done) | (simp; omega)))
end Go.Proofs.YtbnhmjecjeifdaaDoor
