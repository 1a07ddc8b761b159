/-
  The program's size of an expression, as far as a limit.
-/
import Derived.Test.YtbnhmjecjeifdaaDoorQNum
import Derived.LoopTactic
set_option linter.unusedVariables false
namespace Go.Proofs.YtbnhmjecjeifdaaDoor
open Go Go.RowKit Go.Deep
def UpToOf (e : Ex) : Prop := ∀ (lim : Nat) (a : Option Addr) (len cap : Nat) (w : World), Kids w (fun _ => True) a len cap e.kids → nodE e ≤ lim → lim ≤ 9223372036854775807 → nodE e ≤ 2 ^ 40 →
    Calls Tryd.prog 101 #[.int .i64 (lim : Nat), .agg #[.int .i64 (e).op, .int .i64 (e).ty, .int .i64 (e).num, .string (e).text, .int .i64 (e).col, .slice a len cap]] w fun r w' => r = .returned (.int .i64 (nodE e : Nat)) ∧ Cls w w'
theorem nodL_take {l : List Ex} {j : Nat} (h : j < l.length) : nodL (l.take (j + 1)) = nodL (l.take j) + nodE (l.getD j Ex.z) := by
  have e : l.take (j + 1) = l.take j ++ [l.getD j Ex.z] := by rw [List.take_add_one, List.getElem?_eq_getElem (by omega)]; simp [List.getD, h]
  rw [e, nodL_append]; simp [nodL]
theorem nodL_take_le (l : List Ex) (j : Nat) : nodL (l.take j) ≤ nodL l := by
  conv => rhs; rw [← List.take_append_drop j l, nodL_append]
  omega
set_option maxHeartbeats 4000000 in
set_option maxRecDepth 20000 in
theorem addE_calls (l : List Ex) (ih : ∀ k ∈ l, UpToOf k) (lim n : Nat) (a : Option Addr) (len cap : Nat) (w : World) (hk : Kids w (fun _ => True) a len cap l) (hn : n + nodL l ≤ lim) (hl : lim ≤ 9223372036854775807) (h40 : nodL l ≤ 2 ^ 40) :
    Calls Tryd.prog 99 #[.int .i64 (lim : Nat), .int .i64 (n : Nat), .slice a len cap, .func (.func 101) #[] #[]] w fun r w' => r = .returned (.int .i64 (n + nodL l : Nat)) ∧ Cls w w' := by
  have hle := hk.le
  have hmax := hk.max
  unfold maxLen at hmax
  have HL := Lib.hid hk.len_eq
  have HK := Lib.hid hk
  have HI := Lib.hid ih
  have HN := Lib.hid hn
  have HF := Lib.hid h40
  clear hk ih hn h40
  go_enter Tryd.func99, Tryd.ntmps99
  go_wp2_with fail
  go_loopw [1, 13] (fun u i wr => ∃ (j x : Nat), j ≤ len ∧ i = .int .i64 j ∧ u = .int .i64 (x : Nat) ∧ x = n + nodL (l.take j) ∧ Cls w wr) (fun _ i _ => len - (intOf i).toNat)
  case atStart => exact ⟨0, n, Nat.zero_le _, rfl, rfl, by simp [nodL], Cls.of (Below.refl _ _)⟩
  case round =>
    obtain ⟨j, xx, hj, rfl, rfl, hx, y, rfl⟩ := hrel
    have ys := y.size
    have HX := Lib.hid hx
    have hxl : xx ≤ lim := by have h1 := nodL_take_le l j; have h2 := HN.out; omega
    clear hx
    by_cases hlt : j < len
    · obtain ⟨a1, len1, cap1, ⟨b, off, rfl, hb, hok, q0, q1, q2, q3, q4, q5⟩, hfine, hk1⟩ := HK.out.at_ hlt
      have hmem := getD_mem (l := l) (i := j) (by rw [HL.out]; exact hlt)
      have HT := Lib.hid (nodL_take (l := l) (j := j) (by rw [HL.out]; exact hlt))
      have hle2 := nodL_take_le l (j + 1)
      have hkl : xx + nodE (l.getD j Ex.z) ≤ lim := by have h1 := HT.out; have h2 := HN.out; have h3 := HX.out; omega
      have hk40 : nodE (l.getD j Ex.z) ≤ 2 ^ 40 := by have h1 := HT.out; have h2 := HF.out; omega
      have C1 : Hid (∀ W, Below w.heap.size w W → Calls Tryd.prog 101 #[.int .i64 ((lim : Int) - (xx : Int)), .agg #[.int .i64 (l.getD j Ex.z).op, .int .i64 (l.getD j Ex.z).ty, .int .i64 (l.getD j Ex.z).num, .string (l.getD j Ex.z).text, .int .i64 (l.getD j Ex.z).col, .slice a1 len1 cap1]] W fun r w' => r = .returned (.int .i64 (nodE (l.getD j Ex.z) : Nat)) ∧ Cls W w') := Lib.hid (fun W hW => by
        have h := HI.out _ hmem (lim - xx) a1 len1 cap1 W (hk1.later hW) (by omega) (by omega) hk40
        rw [show ((lim - xx : Nat) : Int) = (lim : Int) - (xx : Int) by omega] at h
        exact h)
      have d1 : decide ((lim : Int) < (xx : Int)) = false := by simp; omega
      clear hk1 hfine hmem hok hle2
      generalize nodE (l.getD j Ex.z) = nk at *
      generalize l.getD j Ex.z = kid at *
      go_wp2_with (go_at_call 101; ((with_reducible refine (C1.out _ ?_).mono ?_); (· (repeat first | with_reducible exact Below.refl _ _ | with_reducible refine Below.setCell ?_ (by first | omega | (simp; done) | (simp; omega)) _ | with_reducible refine Below.alloc ?_ (by first | omega | (simp; done) | (simp; omega)) _ | with_reducible refine Below.drew ?_ | with_reducible refine Ext.on _ ?_ (by first | omega | (simp; done) | (simp; omega)))); rintro r _ ⟨rfl, z, rfl⟩))
      go_roundw
      case rel =>
        refine ⟨j + 1, xx + nk, by omega, by go_num, by go_num, by rw [HT.out]; have := HX.out; omega, Cls.of ?_⟩
        repeat first | with_reducible exact Below.refl _ _ | with_reducible refine Below.setCell ?_ (by first | omega | (simp; done) | (simp; omega)) _ | with_reducible refine Below.alloc ?_ (by first | omega | (simp; done) | (simp; omega)) _ | with_reducible refine Below.drew ?_ | with_reducible refine Ext.on _ ?_ (by first | omega | (simp; done) | (simp; omega))
      case measure => simp [intOf]; omega
    · obtain rfl : j = len := by omega
      have HT : Hid (xx = n + nodL l) := Lib.hid (by rw [HX.out, List.take_of_length_le (by rw [HL.out]; exact Nat.le_refl _)])
      go_wp2_with fail
      go_ret
      exact ⟨ret_int (by rw [HT.out]), y, rfl⟩
set_option maxHeartbeats 4000000 in
set_option maxRecDepth 20000 in
theorem upTo_calls : ∀ e : Ex, UpToOf e := by
  refine Ex.ind fun e ih => ?_
  intro lim a len cap w hk hn hl h40
  have HE := Lib.hid (nodE_eq e)
  have C1 : Hid (∀ W, Below w.heap.size w W → Calls Tryd.prog 99 #[.int .i64 (lim : Nat), .int .i64 1, .slice a len cap, .func (.func 101) #[] #[]] W fun r w' => r = .returned (.int .i64 (nodE e : Nat)) ∧ Cls W w') := Lib.hid (fun W hW => by
    have h := addE_calls e.kids ih lim 1 a len cap W (hk.later hW) (by rw [← HE.out]; exact hn) hl (by have := HE.out; omega)
    rw [← HE.out] at h
    exact h)
  clear hk ih hn h40
  generalize nodE e = ne at *
  go_enter Tryd.func101, Tryd.ntmps101
  go_wp2_with (go_at_call 99; ((with_reducible refine (C1.out _ ?_).mono ?_); (· (repeat first | with_reducible exact Below.refl _ _ | with_reducible refine Below.setCell ?_ (by first | omega | (simp; done) | (simp; omega)) _ | with_reducible refine Below.alloc ?_ (by first | omega | (simp; done) | (simp; omega)) _ | with_reducible refine Below.drew ?_ | with_reducible refine Ext.on _ ?_ (by first | omega | (simp; done) | (simp; omega)))); rintro r _ ⟨rfl, z, rfl⟩))
  go_ret
  refine ⟨rfl, Cls.of ?_⟩
  repeat first | with_reducible exact Below.refl _ _ | with_reducible refine Below.setCell ?_ (by first | omega | (simp; done) | (simp; omega)) _ | with_reducible refine Below.alloc ?_ (by first | omega | (simp; done) | (simp; omega)) _ | with_reducible refine Below.drew ?_ | with_reducible refine Ext.on _ ?_ (by first | omega | (simp; done) | (simp; omega))
end Go.Proofs.YtbnhmjecjeifdaaDoor
