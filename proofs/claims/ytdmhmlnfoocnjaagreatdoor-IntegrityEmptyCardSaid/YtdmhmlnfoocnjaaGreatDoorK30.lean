/-
  Whether the fields of any expression are as the table permits.
-/
import Derived.Test.YtdmhmlnfoocnjaaGreatDoorK28
set_option linter.unusedVariables false
namespace Go.Proofs.YtdmhmlnfoocnjaaGreatDoor
open Go Go.RowKit Go.Deep
def plainR (op ty num : Int) (text : ByteArray) (col : Int) : Bool :=
  if op = 1 then (isT ty && ((num == 0 && text.toList == []) && col == 0)) else if op = 2 then ((decide (-1000000000000 ≤ num) && decide (num ≤ 1000000000000)) && ((ty == 0 && text.toList == []) && col == 0))
  else if op = 3 then ((num == 0 || num == 1) && ((ty == 0 && text.toList == []) && col == 0)) else if op = 4 then (vB 3 0 text && ((ty == 0 && num == 0) && col == 0)) else if op = 5 then ((ty == 0 && num == 0) && text.toList == [])
  else ((decide (1 ≤ op) && decide (op ≤ 28)) && (((ty == 0 && num == 0) && text.toList == []) && col == 0))
theorem isT_iff (t : Int) : isT t = (!decide (t < 1) && !decide (3 < t)) := by
  unfold isT
  rw [Bool.eq_iff_iff]
  simp
  omega
set_option maxHeartbeats 16000000 in
set_option maxRecDepth 20000 in
theorem plain_calls (e : Ex) (a : Option Addr) (len cap : Nat) (w : World) (hs : e.text.size ≤ maxLen) :
    Calls Tryz.prog 127 #[.agg #[.int .i64 e.op, .int .i64 e.ty, .int .i64 e.num, .string e.text, .int .i64 e.col, .slice a len cap]] w fun r w' => r = .returned (.bool (plainR e.op e.ty e.num e.text e.col)) ∧ Cls w w' := by
  obtain ⟨op, ty, num, text, col, kids⟩ := e
  simp only [Ex.op, Ex.ty, Ex.num, Ex.text, Ex.col] at hs ⊢
  have CV : Hid (∀ W, Calls Tryz.prog 53 #[.agg #[.int .i64 3, .int .i64 0, .string text]] W fun r w' => r = .returned (.bool (vB 3 0 text)) ∧ Cls W w') := Lib.hid fun W => rValid_calls 3 0 text W hs
  by_cases h1 : op = 1
  · subst h1
    have e1 : plainR 1 ty num text col = (isT ty && ((num == 0 && text.toList == []) && col == 0)) := rfl
    rw [e1, isT_iff]
    clear CV e1
    go_enter Tryz.func127, Tryz.ntmps127
    go_wp2_with fail
    all_goals
      go_ret
      refine ⟨ret_bool (by first | (simp [*]; done) | (simp_all; done) | (simp [*]; intros; omega) | (simp_all; intros; omega)), Cls.of ?_⟩
      repeat first|with_reducible exact Below.refl _ _|with_reducible refine Below.setCell ?_ (by first|omega|(simp;done)|(simp;omega)) _|with_reducible refine Below.alloc ?_ (by first|omega|(simp;done)|(simp;omega)) _|with_reducible refine Below.drew ?_|with_reducible refine Ext.on _ ?_ (by first|omega|(simp;done)|(simp;omega))
  by_cases h2 : op = 2
  · subst h2
    have e1 : plainR 2 ty num text col = ((decide (-1000000000000 ≤ num) && decide (num ≤ 1000000000000)) && ((ty == 0 && text.toList == []) && col == 0)) := rfl
    rw [e1]
    clear CV e1
    go_enter Tryz.func127, Tryz.ntmps127
    go_wp2_with fail
    all_goals
      go_ret
      refine ⟨ret_bool (by first | (simp [*]; done) | (simp_all; done) | (simp [*]; intros; omega) | (simp_all; intros; omega)), Cls.of ?_⟩
      repeat first|with_reducible exact Below.refl _ _|with_reducible refine Below.setCell ?_ (by first|omega|(simp;done)|(simp;omega)) _|with_reducible refine Below.alloc ?_ (by first|omega|(simp;done)|(simp;omega)) _|with_reducible refine Below.drew ?_|with_reducible refine Ext.on _ ?_ (by first|omega|(simp;done)|(simp;omega))
  by_cases h3 : op = 3
  · subst h3
    have e1 : plainR 3 ty num text col = ((num == 0 || num == 1) && ((ty == 0 && text.toList == []) && col == 0)) := rfl
    rw [e1]
    clear CV e1
    go_enter Tryz.func127, Tryz.ntmps127
    go_wp2_with fail
    all_goals
      go_ret
      refine ⟨ret_bool (by first | (simp [*]; done) | (simp_all; done) | (simp [*]; intros; omega) | (simp_all; intros; omega)), Cls.of ?_⟩
      repeat first|with_reducible exact Below.refl _ _|with_reducible refine Below.setCell ?_ (by first|omega|(simp;done)|(simp;omega)) _|with_reducible refine Below.alloc ?_ (by first|omega|(simp;done)|(simp;omega)) _|with_reducible refine Below.drew ?_|with_reducible refine Ext.on _ ?_ (by first|omega|(simp;done)|(simp;omega))
  by_cases h4 : op = 4
  · subst h4
    have e1 : plainR 4 ty num text col = (vB 3 0 text && ((ty == 0 && num == 0) && col == 0)) := rfl
    rw [e1]
    clear e1
    generalize vB 3 0 text = bv at CV ⊢
    cases bv
    all_goals
      go_enter Tryz.func127, Tryz.ntmps127
      go_wp2_with (go_at_call 53; ((with_reducible refine (CV.out _).mono ?_); rintro r _ ⟨rfl, y, rfl⟩; obtain ⟨l1, l2, l3, l4, l5⟩ := y.lts (b := w.heap.size) (by simp; omega); obtain ⟨m1, m2, m3, m4, m5⟩ := y.lts (b := w.heap.size + 1) (by simp); have ys := y.size; simp at ys))
      all_goals
        go_ret
        refine ⟨ret_bool (by first | (simp [*]; done) | (simp_all; done) | (simp [*]; intros; omega) | (simp_all; intros; omega)), Cls.of ?_⟩
        repeat first|with_reducible exact Below.refl _ _|with_reducible refine Below.setCell ?_ (by first|omega|(simp;done)|(simp;omega)) _|with_reducible refine Below.alloc ?_ (by first|omega|(simp;done)|(simp;omega)) _|with_reducible refine Below.drew ?_|with_reducible refine Ext.on _ ?_ (by first|omega|(simp;done)|(simp;omega))
  by_cases h5 : op = 5
  · subst h5
    have e1 : plainR 5 ty num text col = ((ty == 0 && num == 0) && text.toList == []) := rfl
    rw [e1]
    clear CV e1
    go_enter Tryz.func127, Tryz.ntmps127
    go_wp2_with fail
    all_goals
      go_ret
      refine ⟨ret_bool (by first | (simp [*]; done) | (simp_all; done) | (simp [*]; intros; omega) | (simp_all; intros; omega)), Cls.of ?_⟩
      repeat first|with_reducible exact Below.refl _ _|with_reducible refine Below.setCell ?_ (by first|omega|(simp;done)|(simp;omega)) _|with_reducible refine Below.alloc ?_ (by first|omega|(simp;done)|(simp;omega)) _|with_reducible refine Below.drew ?_|with_reducible refine Ext.on _ ?_ (by first|omega|(simp;done)|(simp;omega))
  have e1 : plainR op ty num text col = ((decide (1 ≤ op) && decide (op ≤ 28)) && (((ty == 0 && num == 0) && text.toList == []) && col == 0)) := by unfold plainR; rw [if_neg h1, if_neg h2, if_neg h3, if_neg h4, if_neg h5]
  have b1 : (op == 1) = false := by simp [h1]
  have b2 : (op == 2) = false := by simp [h2]
  have b3 : (op == 3) = false := by simp [h3]
  have b4 : (op == 4) = false := by simp [h4]
  have b5 : (op == 5) = false := by simp [h5]
  rw [e1]
  clear CV e1 h1 h2 h3 h4 h5
  go_enter Tryz.func127, Tryz.ntmps127
  go_wp2_with fail
  all_goals
    go_ret
    refine ⟨ret_bool (by first | (simp [*]; done) | (simp_all; done) | (simp [*]; intros; omega) | (simp_all; intros; omega)), Cls.of ?_⟩
    repeat first|with_reducible exact Below.refl _ _|with_reducible refine Below.setCell ?_ (by first|omega|(simp;done)|(simp;omega)) _|with_reducible refine Below.alloc ?_ (by first|omega|(simp;done)|(simp;omega)) _|with_reducible refine Below.drew ?_|with_reducible refine Ext.on _ ?_ (by first|omega|(simp;done)|(simp;omega))
end Go.Proofs.YtdmhmlnfoocnjaaGreatDoor
