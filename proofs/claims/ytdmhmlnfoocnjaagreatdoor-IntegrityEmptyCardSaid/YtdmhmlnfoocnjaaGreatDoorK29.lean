/-
  What the reference's Type asks of one operation, of any expression.
-/
import Derived.Test.YtdmhmlnfoocnjaaGreatDoorK28
import Derived.Test.YtdmhmlnfoocnjaaGreatDoorK17
set_option linter.unusedVariables false
namespace Go.Proofs.YtdmhmlnfoocnjaaGreatDoor
open Go Go.RowKit Go.Deep
def allIs (ks : List Int) (t : Int) : Bool := ks.all fun x => x == t
theorem allIs_go {ks : List Int} {t : Int} {j : Nat} (h : j < ks.length) : allIs (ks.drop j) t = ((ks.getD j 0 == t) && allIs (ks.drop (j + 1)) t) := by
  rw [dropI h]
  rfl
set_option maxHeartbeats 4000000 in
set_option maxRecDepth 20000 in
theorem all_calls (ks : List Int) (t : Int) (a : Option Addr) (len cap : Nat) (w : World) (h : NumIn w a len cap ks) :
    Calls Tryz.prog 149 #[.slice a len cap, .int .i64 t] w fun r w' => r = .returned (.bool (allIs ks t)) ∧ Cls w w' := by
  obtain ⟨hl, hle, hmax, hh⟩ := h
  unfold maxLen at hmax
  have HH := Lib.hid hh
  have HL := Lib.hid hl
  clear hh hl
  go_enter Tryz.func149, Tryz.ntmps149
  go_wp2_with fail
  go_loopw [5] (fun i wr => ∃ j : Nat, j ≤ len ∧ i = .int .i64 j ∧ allIs ks t = allIs (ks.drop j) t ∧ Cls w wr) (fun i _ => len - (intOf i).toNat)
  case atStart => exact ⟨0, Nat.zero_le _, rfl, rfl, Cls.of (Below.refl _ _)⟩
  case round =>
    obtain ⟨j, hj, rfl, hr, x, rfl⟩ := hrel
    have HR := Lib.hid hr
    clear hr
    by_cases hlt : j < len
    · obtain ⟨b, off, rfl, hb, hc⟩ := HH.out.resolve_left (by omega)
      have q := hc j hlt
      have HG := Lib.hid (allIs_go (ks := ks) (t := t) (j := j) (by rw [HL.out]; exact hlt))
      clear hc
      generalize ks.getD j 0 = u at q HG
      by_cases hu : u = t
      · have hN : allIs ks t = allIs (ks.drop (j + 1)) t := by rw [HR.out, HG.out, hu]; simp
        have HN := Lib.hid hN
        clear hN
        subst hu
        go_wp2_with fail
        go_roundw
        case rel => exact ⟨j + 1, by omega, by go_num, HN.out, x, rfl⟩
        case measure => simp [intOf]; omega
      · have b1 : (u == t) = false := by simp [hu]
        have b2 : (u != t) = true := by simp [hu]
        have hN : allIs ks t = false := by rw [HR.out, HG.out, b1]; rfl
        have HN := Lib.hid hN
        clear hN hu
        go_wp2_with fail
        go_ret
        exact ⟨ret_bool HN.out.symm, x, rfl⟩
    · have hN : allIs ks t = true := by rw [HR.out, List.drop_of_length_le (by rw [HL.out]; omega)]; rfl
      have HN := Lib.hid hN
      clear hN
      go_wp2_with fail
      go_ret
      exact ⟨ret_bool HN.out.symm, x, rfl⟩
def resR (tys : List Int) (n : Nat) (ty col : Int) (ks : List Int) : Int :=
  if n = 1 then ty else if n = 2 then 1 else if n = 3 then 2 else if n = 4 then 3 else if n = 5 then tys.getD col.toNat 0
  else if n = 12 then (if allIs ks 3 = true then 3 else 0) else if n = 13 then (if allIs ks 3 = true then 1 else 0) else if n = 21 then 2 else if n = 26 then (if ks.getD 0 0 = 2 then (if ks.getD 1 0 = ks.getD 2 0 then ks.getD 1 0 else 0) else 0)
  else if n = 27 then (if ks.getD 0 0 = ks.getD 1 0 then ks.getD 0 0 else 0) else if n ≤ 11 then (if allIs ks 1 = true then 1 else 0) else if 22 ≤ n ∧ n ≤ 25 then (if allIs ks 2 = true then 2 else 0) else (if allIs ks (ks.getD 0 0) = true then 2 else 0)
theorem num1 {w : World} {a : Option Addr} {len cap : Nat} {l : List Int} (h : NumIn w a len cap l) {j : Nat} (hj : j < len) : ∃ b off, a = some ⟨b, off, none⟩ ∧ b < w.heap.size ∧ w.cell? ⟨b, off + j, none⟩ = some (.int .i64 (l.getD j 0)) := by
  obtain ⟨b, off, ha, hb, hc⟩ := h.2.2.2.resolve_left (by omega)
  exact ⟨b, off, ha, hb, hc j hj⟩
set_option maxHeartbeats 16000000 in
set_option maxRecDepth 20000 in
theorem rresult_calls (tys : List Int) (e : Ex) (n : Nat) (hn : e.op = (n : Int)) (h1 : 1 ≤ n) (h2 : n < 29) (ks : List Int) (ta : Option Addr) (tlen tcap : Nat) (a : Option Addr) (len cap : Nat) (ka : Option Addr) (klen kcap : Nat) (w : World)
    (hty : NumIn w ta tlen tcap tys) (hk : NumIn w ka klen kcap ks) (htk : takesH (oRow n).has klen = true) (hcol : n = 5 → 0 ≤ e.col ∧ e.col < tlen) :
    Calls Tryz.prog 128 #[.slice ta tlen tcap, .agg #[.int .i64 e.op, .int .i64 e.ty, .int .i64 e.num, .string e.text, .int .i64 e.col, .slice a len cap], .slice ka klen kcap] w fun r w' => r = .returned (.int .i64 (resR tys n e.ty e.col ks)) ∧ Cls w w' := by
  have CA : Hid (∀ t W, Below w.heap.size w W → Calls Tryz.prog 149 #[.slice ka klen kcap, .int .i64 t] W fun r w' => r = .returned (.bool (allIs ks t)) ∧ Cls W w') := Lib.hid fun t W hW => all_calls ks t ka klen kcap W (hk.later hW)
  have hkm := hk.2.1
  have hkx := hk.2.2.1
  have htm := hty.2.1
  have htx := hty.2.2.1
  unfold maxLen at hkx htx
  have HNK := Lib.hid hk
  have HNT := Lib.hid hty
  have HB0 : Hid (Below w.heap.size w (w.alloc (.cells #[.int .i64 e.op, .int .i64 e.ty, .int .i64 e.num, .string e.text, .int .i64 e.col, .slice a len cap] 64))) := Lib.hid (by repeat first|with_reducible exact Below.refl _ _|with_reducible refine Below.setCell ?_ (by first|omega|(simp;done)|(simp;omega)) _|with_reducible refine Below.alloc ?_ (by first|omega|(simp;done)|(simp;omega)) _|with_reducible refine Below.drew ?_|with_reducible refine Ext.on _ ?_ (by first|omega|(simp;done)|(simp;omega)))
  clear hty hk
  have hsp : n = 1 ∨ n = 2 ∨ n = 3 ∨ n = 4 ∨ n = 5 ∨ n = 6 ∨ n = 7 ∨ n = 8 ∨ n = 9 ∨ n = 10 ∨ n = 11 ∨ n = 12 ∨ n = 13 ∨ n = 14 ∨ n = 15 ∨ n = 16 ∨ n = 17 ∨ n = 18 ∨ n = 19 ∨ n = 20 ∨ n = 21 ∨ n = 22 ∨ n = 23 ∨ n = 24 ∨ n = 25 ∨ n = 26 ∨ n = 27 ∨ n = 28 := by omega
  rcases hsp with rfl | rfl | rfl | rfl | rfl | rfl | rfl | rfl | rfl | rfl | rfl | rfl | rfl | rfl | rfl | rfl | rfl | rfl | rfl | rfl | rfl | rfl | rfl | rfl | rfl | rfl | rfl | rfl
  · rw [show resR tys 1 e.ty e.col ks = e.ty from rfl]
    clear CA HB0 HNK HNT
    go_enter Tryz.func128, Tryz.ntmps128
    go_wp2_with fail
    go_ret
    refine ⟨ret_int rfl, Cls.of ?_⟩
    repeat first|with_reducible exact Below.refl _ _|with_reducible refine Below.setCell ?_ (by first|omega|(simp;done)|(simp;omega)) _|with_reducible refine Below.alloc ?_ (by first|omega|(simp;done)|(simp;omega)) _|with_reducible refine Below.drew ?_|with_reducible refine Ext.on _ ?_ (by first|omega|(simp;done)|(simp;omega))
  · rw [show resR tys 2 e.ty e.col ks = 1 from rfl]
    clear CA HB0 HNK HNT
    go_enter Tryz.func128, Tryz.ntmps128
    go_wp2_with fail
    go_ret
    refine ⟨ret_int rfl, Cls.of ?_⟩
    repeat first|with_reducible exact Below.refl _ _|with_reducible refine Below.setCell ?_ (by first|omega|(simp;done)|(simp;omega)) _|with_reducible refine Below.alloc ?_ (by first|omega|(simp;done)|(simp;omega)) _|with_reducible refine Below.drew ?_|with_reducible refine Ext.on _ ?_ (by first|omega|(simp;done)|(simp;omega))
  · rw [show resR tys 3 e.ty e.col ks = 2 from rfl]
    clear CA HB0 HNK HNT
    go_enter Tryz.func128, Tryz.ntmps128
    go_wp2_with fail
    go_ret
    refine ⟨ret_int rfl, Cls.of ?_⟩
    repeat first|with_reducible exact Below.refl _ _|with_reducible refine Below.setCell ?_ (by first|omega|(simp;done)|(simp;omega)) _|with_reducible refine Below.alloc ?_ (by first|omega|(simp;done)|(simp;omega)) _|with_reducible refine Below.drew ?_|with_reducible refine Ext.on _ ?_ (by first|omega|(simp;done)|(simp;omega))
  · rw [show resR tys 4 e.ty e.col ks = 3 from rfl]
    clear CA HB0 HNK HNT
    go_enter Tryz.func128, Tryz.ntmps128
    go_wp2_with fail
    go_ret
    refine ⟨ret_int rfl, Cls.of ?_⟩
    repeat first|with_reducible exact Below.refl _ _|with_reducible refine Below.setCell ?_ (by first|omega|(simp;done)|(simp;omega)) _|with_reducible refine Below.alloc ?_ (by first|omega|(simp;done)|(simp;omega)) _|with_reducible refine Below.drew ?_|with_reducible refine Ext.on _ ?_ (by first|omega|(simp;done)|(simp;omega))
  · rw [show resR tys 5 e.ty e.col ks = tys.getD e.col.toNat 0 from rfl]
    obtain ⟨hc0, hc1⟩ := hcol rfl
    have hcn : e.col = ((e.col.toNat : Nat) : Int) := by omega
    obtain ⟨kb, ko, rfl, hkb, q0⟩ := num1 HNT.out (j := e.col.toNat) (by omega)
    have hkb1 : kb < w.heap.size + 1 := by omega
    have d0 : 0 ≤ e.col := hc0
    clear CA HB0 HNK HNT htk
    generalize tys.getD e.col.toNat 0 = t0 at q0 ⊢
    generalize e.col.toNat = cn at q0 hcn
    rw [hcn] at hc1 d0 ⊢
    go_enter Tryz.func128, Tryz.ntmps128
    go_wp2_with fail
    go_ret
    refine ⟨ret_int rfl, Cls.of ?_⟩
    repeat first|with_reducible exact Below.refl _ _|with_reducible refine Below.setCell ?_ (by first|omega|(simp;done)|(simp;omega)) _|with_reducible refine Below.alloc ?_ (by first|omega|(simp;done)|(simp;omega)) _|with_reducible refine Below.drew ?_|with_reducible refine Ext.on _ ?_ (by first|omega|(simp;done)|(simp;omega))
  · rw [show resR tys 6 e.ty e.col ks = (if allIs ks 1 = true then 1 else 0) from rfl]
    have C1 := Lib.hid (CA.out 1)
    clear CA HB0 HNK HNT
    generalize allIs ks 1 = ab at C1 ⊢
    cases ab
    all_goals
      go_enter Tryz.func128, Tryz.ntmps128
      go_wp2_with (go_at_call 149; ((with_reducible refine (C1.out _ (by repeat first|with_reducible exact Below.refl _ _|with_reducible refine Below.setCell ?_ (by first|omega|(simp;done)|(simp;omega)) _|with_reducible refine Below.alloc ?_ (by first|omega|(simp;done)|(simp;omega)) _|with_reducible refine Below.drew ?_|with_reducible refine Ext.on _ ?_ (by first|omega|(simp;done)|(simp;omega)))).mono ?_); rintro r _ ⟨rfl, y, rfl⟩))
      go_ret
      refine ⟨ret_int rfl, Cls.of ?_⟩
      repeat first|with_reducible exact Below.refl _ _|with_reducible refine Below.setCell ?_ (by first|omega|(simp;done)|(simp;omega)) _|with_reducible refine Below.alloc ?_ (by first|omega|(simp;done)|(simp;omega)) _|with_reducible refine Below.drew ?_|with_reducible refine Ext.on _ ?_ (by first|omega|(simp;done)|(simp;omega))
  · rw [show resR tys 7 e.ty e.col ks = (if allIs ks 1 = true then 1 else 0) from rfl]
    have C1 := Lib.hid (CA.out 1)
    clear CA HB0 HNK HNT
    generalize allIs ks 1 = ab at C1 ⊢
    cases ab
    all_goals
      go_enter Tryz.func128, Tryz.ntmps128
      go_wp2_with (go_at_call 149; ((with_reducible refine (C1.out _ (by repeat first|with_reducible exact Below.refl _ _|with_reducible refine Below.setCell ?_ (by first|omega|(simp;done)|(simp;omega)) _|with_reducible refine Below.alloc ?_ (by first|omega|(simp;done)|(simp;omega)) _|with_reducible refine Below.drew ?_|with_reducible refine Ext.on _ ?_ (by first|omega|(simp;done)|(simp;omega)))).mono ?_); rintro r _ ⟨rfl, y, rfl⟩))
      go_ret
      refine ⟨ret_int rfl, Cls.of ?_⟩
      repeat first|with_reducible exact Below.refl _ _|with_reducible refine Below.setCell ?_ (by first|omega|(simp;done)|(simp;omega)) _|with_reducible refine Below.alloc ?_ (by first|omega|(simp;done)|(simp;omega)) _|with_reducible refine Below.drew ?_|with_reducible refine Ext.on _ ?_ (by first|omega|(simp;done)|(simp;omega))
  · rw [show resR tys 8 e.ty e.col ks = (if allIs ks 1 = true then 1 else 0) from rfl]
    have C1 := Lib.hid (CA.out 1)
    clear CA HB0 HNK HNT
    generalize allIs ks 1 = ab at C1 ⊢
    cases ab
    all_goals
      go_enter Tryz.func128, Tryz.ntmps128
      go_wp2_with (go_at_call 149; ((with_reducible refine (C1.out _ (by repeat first|with_reducible exact Below.refl _ _|with_reducible refine Below.setCell ?_ (by first|omega|(simp;done)|(simp;omega)) _|with_reducible refine Below.alloc ?_ (by first|omega|(simp;done)|(simp;omega)) _|with_reducible refine Below.drew ?_|with_reducible refine Ext.on _ ?_ (by first|omega|(simp;done)|(simp;omega)))).mono ?_); rintro r _ ⟨rfl, y, rfl⟩))
      go_ret
      refine ⟨ret_int rfl, Cls.of ?_⟩
      repeat first|with_reducible exact Below.refl _ _|with_reducible refine Below.setCell ?_ (by first|omega|(simp;done)|(simp;omega)) _|with_reducible refine Below.alloc ?_ (by first|omega|(simp;done)|(simp;omega)) _|with_reducible refine Below.drew ?_|with_reducible refine Ext.on _ ?_ (by first|omega|(simp;done)|(simp;omega))
  · rw [show resR tys 9 e.ty e.col ks = (if allIs ks 1 = true then 1 else 0) from rfl]
    have C1 := Lib.hid (CA.out 1)
    clear CA HB0 HNK HNT
    generalize allIs ks 1 = ab at C1 ⊢
    cases ab
    all_goals
      go_enter Tryz.func128, Tryz.ntmps128
      go_wp2_with (go_at_call 149; ((with_reducible refine (C1.out _ (by repeat first|with_reducible exact Below.refl _ _|with_reducible refine Below.setCell ?_ (by first|omega|(simp;done)|(simp;omega)) _|with_reducible refine Below.alloc ?_ (by first|omega|(simp;done)|(simp;omega)) _|with_reducible refine Below.drew ?_|with_reducible refine Ext.on _ ?_ (by first|omega|(simp;done)|(simp;omega)))).mono ?_); rintro r _ ⟨rfl, y, rfl⟩))
      go_ret
      refine ⟨ret_int rfl, Cls.of ?_⟩
      repeat first|with_reducible exact Below.refl _ _|with_reducible refine Below.setCell ?_ (by first|omega|(simp;done)|(simp;omega)) _|with_reducible refine Below.alloc ?_ (by first|omega|(simp;done)|(simp;omega)) _|with_reducible refine Below.drew ?_|with_reducible refine Ext.on _ ?_ (by first|omega|(simp;done)|(simp;omega))
  · rw [show resR tys 10 e.ty e.col ks = (if allIs ks 1 = true then 1 else 0) from rfl]
    have C1 := Lib.hid (CA.out 1)
    clear CA HB0 HNK HNT
    generalize allIs ks 1 = ab at C1 ⊢
    cases ab
    all_goals
      go_enter Tryz.func128, Tryz.ntmps128
      go_wp2_with (go_at_call 149; ((with_reducible refine (C1.out _ (by repeat first|with_reducible exact Below.refl _ _|with_reducible refine Below.setCell ?_ (by first|omega|(simp;done)|(simp;omega)) _|with_reducible refine Below.alloc ?_ (by first|omega|(simp;done)|(simp;omega)) _|with_reducible refine Below.drew ?_|with_reducible refine Ext.on _ ?_ (by first|omega|(simp;done)|(simp;omega)))).mono ?_); rintro r _ ⟨rfl, y, rfl⟩))
      go_ret
      refine ⟨ret_int rfl, Cls.of ?_⟩
      repeat first|with_reducible exact Below.refl _ _|with_reducible refine Below.setCell ?_ (by first|omega|(simp;done)|(simp;omega)) _|with_reducible refine Below.alloc ?_ (by first|omega|(simp;done)|(simp;omega)) _|with_reducible refine Below.drew ?_|with_reducible refine Ext.on _ ?_ (by first|omega|(simp;done)|(simp;omega))
  · rw [show resR tys 11 e.ty e.col ks = (if allIs ks 1 = true then 1 else 0) from rfl]
    have C1 := Lib.hid (CA.out 1)
    clear CA HB0 HNK HNT
    generalize allIs ks 1 = ab at C1 ⊢
    cases ab
    all_goals
      go_enter Tryz.func128, Tryz.ntmps128
      go_wp2_with (go_at_call 149; ((with_reducible refine (C1.out _ (by repeat first|with_reducible exact Below.refl _ _|with_reducible refine Below.setCell ?_ (by first|omega|(simp;done)|(simp;omega)) _|with_reducible refine Below.alloc ?_ (by first|omega|(simp;done)|(simp;omega)) _|with_reducible refine Below.drew ?_|with_reducible refine Ext.on _ ?_ (by first|omega|(simp;done)|(simp;omega)))).mono ?_); rintro r _ ⟨rfl, y, rfl⟩))
      go_ret
      refine ⟨ret_int rfl, Cls.of ?_⟩
      repeat first|with_reducible exact Below.refl _ _|with_reducible refine Below.setCell ?_ (by first|omega|(simp;done)|(simp;omega)) _|with_reducible refine Below.alloc ?_ (by first|omega|(simp;done)|(simp;omega)) _|with_reducible refine Below.drew ?_|with_reducible refine Ext.on _ ?_ (by first|omega|(simp;done)|(simp;omega))
  · rw [show resR tys 12 e.ty e.col ks = (if allIs ks 3 = true then 3 else 0) from rfl]
    have C1 := Lib.hid (CA.out 3)
    clear CA HB0 HNK HNT
    generalize allIs ks 3 = ab at C1 ⊢
    cases ab
    all_goals
      go_enter Tryz.func128, Tryz.ntmps128
      go_wp2_with (go_at_call 149; ((with_reducible refine (C1.out _ (by repeat first|with_reducible exact Below.refl _ _|with_reducible refine Below.setCell ?_ (by first|omega|(simp;done)|(simp;omega)) _|with_reducible refine Below.alloc ?_ (by first|omega|(simp;done)|(simp;omega)) _|with_reducible refine Below.drew ?_|with_reducible refine Ext.on _ ?_ (by first|omega|(simp;done)|(simp;omega)))).mono ?_); rintro r _ ⟨rfl, y, rfl⟩))
      go_ret
      refine ⟨ret_int rfl, Cls.of ?_⟩
      repeat first|with_reducible exact Below.refl _ _|with_reducible refine Below.setCell ?_ (by first|omega|(simp;done)|(simp;omega)) _|with_reducible refine Below.alloc ?_ (by first|omega|(simp;done)|(simp;omega)) _|with_reducible refine Below.drew ?_|with_reducible refine Ext.on _ ?_ (by first|omega|(simp;done)|(simp;omega))
  · rw [show resR tys 13 e.ty e.col ks = (if allIs ks 3 = true then 1 else 0) from rfl]
    have C1 := Lib.hid (CA.out 3)
    clear CA HB0 HNK HNT
    generalize allIs ks 3 = ab at C1 ⊢
    cases ab
    all_goals
      go_enter Tryz.func128, Tryz.ntmps128
      go_wp2_with (go_at_call 149; ((with_reducible refine (C1.out _ (by repeat first|with_reducible exact Below.refl _ _|with_reducible refine Below.setCell ?_ (by first|omega|(simp;done)|(simp;omega)) _|with_reducible refine Below.alloc ?_ (by first|omega|(simp;done)|(simp;omega)) _|with_reducible refine Below.drew ?_|with_reducible refine Ext.on _ ?_ (by first|omega|(simp;done)|(simp;omega)))).mono ?_); rintro r _ ⟨rfl, y, rfl⟩))
      go_ret
      refine ⟨ret_int rfl, Cls.of ?_⟩
      repeat first|with_reducible exact Below.refl _ _|with_reducible refine Below.setCell ?_ (by first|omega|(simp;done)|(simp;omega)) _|with_reducible refine Below.alloc ?_ (by first|omega|(simp;done)|(simp;omega)) _|with_reducible refine Below.drew ?_|with_reducible refine Ext.on _ ?_ (by first|omega|(simp;done)|(simp;omega))
  · rw [show resR tys 14 e.ty e.col ks = (if allIs ks (ks.getD 0 0) = true then 2 else 0) from rfl]
    have hk0 : 0 < klen := by have := htk; simp [takesH, oRow, opsRows] at this; omega
    obtain ⟨kb, ko, rfl, hkb, q0⟩ := num1 HNK.out (j := 0) hk0
    simp only [Nat.add_zero] at q0
    have hkb1 : kb < w.heap.size + 1 := by omega
    have C1 := Lib.hid (CA.out (ks.getD 0 0))
    clear CA HB0 HNK HNT htk
    generalize allIs ks (ks.getD 0 0) = ab at C1 ⊢
    generalize ks.getD 0 0 = k0 at C1 q0
    cases ab
    all_goals
      go_enter Tryz.func128, Tryz.ntmps128
      go_wp2_with (go_at_call 149; ((with_reducible refine (C1.out _ (by repeat first|with_reducible exact Below.refl _ _|with_reducible refine Below.setCell ?_ (by first|omega|(simp;done)|(simp;omega)) _|with_reducible refine Below.alloc ?_ (by first|omega|(simp;done)|(simp;omega)) _|with_reducible refine Below.drew ?_|with_reducible refine Ext.on _ ?_ (by first|omega|(simp;done)|(simp;omega)))).mono ?_); rintro r _ ⟨rfl, y, rfl⟩))
      go_ret
      refine ⟨ret_int rfl, Cls.of ?_⟩
      repeat first|with_reducible exact Below.refl _ _|with_reducible refine Below.setCell ?_ (by first|omega|(simp;done)|(simp;omega)) _|with_reducible refine Below.alloc ?_ (by first|omega|(simp;done)|(simp;omega)) _|with_reducible refine Below.drew ?_|with_reducible refine Ext.on _ ?_ (by first|omega|(simp;done)|(simp;omega))
  · rw [show resR tys 15 e.ty e.col ks = (if allIs ks (ks.getD 0 0) = true then 2 else 0) from rfl]
    have hk0 : 0 < klen := by have := htk; simp [takesH, oRow, opsRows] at this; omega
    obtain ⟨kb, ko, rfl, hkb, q0⟩ := num1 HNK.out (j := 0) hk0
    simp only [Nat.add_zero] at q0
    have hkb1 : kb < w.heap.size + 1 := by omega
    have C1 := Lib.hid (CA.out (ks.getD 0 0))
    clear CA HB0 HNK HNT htk
    generalize allIs ks (ks.getD 0 0) = ab at C1 ⊢
    generalize ks.getD 0 0 = k0 at C1 q0
    cases ab
    all_goals
      go_enter Tryz.func128, Tryz.ntmps128
      go_wp2_with (go_at_call 149; ((with_reducible refine (C1.out _ (by repeat first|with_reducible exact Below.refl _ _|with_reducible refine Below.setCell ?_ (by first|omega|(simp;done)|(simp;omega)) _|with_reducible refine Below.alloc ?_ (by first|omega|(simp;done)|(simp;omega)) _|with_reducible refine Below.drew ?_|with_reducible refine Ext.on _ ?_ (by first|omega|(simp;done)|(simp;omega)))).mono ?_); rintro r _ ⟨rfl, y, rfl⟩))
      go_ret
      refine ⟨ret_int rfl, Cls.of ?_⟩
      repeat first|with_reducible exact Below.refl _ _|with_reducible refine Below.setCell ?_ (by first|omega|(simp;done)|(simp;omega)) _|with_reducible refine Below.alloc ?_ (by first|omega|(simp;done)|(simp;omega)) _|with_reducible refine Below.drew ?_|with_reducible refine Ext.on _ ?_ (by first|omega|(simp;done)|(simp;omega))
  · rw [show resR tys 16 e.ty e.col ks = (if allIs ks (ks.getD 0 0) = true then 2 else 0) from rfl]
    have hk0 : 0 < klen := by have := htk; simp [takesH, oRow, opsRows] at this; omega
    obtain ⟨kb, ko, rfl, hkb, q0⟩ := num1 HNK.out (j := 0) hk0
    simp only [Nat.add_zero] at q0
    have hkb1 : kb < w.heap.size + 1 := by omega
    have C1 := Lib.hid (CA.out (ks.getD 0 0))
    clear CA HB0 HNK HNT htk
    generalize allIs ks (ks.getD 0 0) = ab at C1 ⊢
    generalize ks.getD 0 0 = k0 at C1 q0
    cases ab
    all_goals
      go_enter Tryz.func128, Tryz.ntmps128
      go_wp2_with (go_at_call 149; ((with_reducible refine (C1.out _ (by repeat first|with_reducible exact Below.refl _ _|with_reducible refine Below.setCell ?_ (by first|omega|(simp;done)|(simp;omega)) _|with_reducible refine Below.alloc ?_ (by first|omega|(simp;done)|(simp;omega)) _|with_reducible refine Below.drew ?_|with_reducible refine Ext.on _ ?_ (by first|omega|(simp;done)|(simp;omega)))).mono ?_); rintro r _ ⟨rfl, y, rfl⟩))
      go_ret
      refine ⟨ret_int rfl, Cls.of ?_⟩
      repeat first|with_reducible exact Below.refl _ _|with_reducible refine Below.setCell ?_ (by first|omega|(simp;done)|(simp;omega)) _|with_reducible refine Below.alloc ?_ (by first|omega|(simp;done)|(simp;omega)) _|with_reducible refine Below.drew ?_|with_reducible refine Ext.on _ ?_ (by first|omega|(simp;done)|(simp;omega))
  · rw [show resR tys 17 e.ty e.col ks = (if allIs ks (ks.getD 0 0) = true then 2 else 0) from rfl]
    have hk0 : 0 < klen := by have := htk; simp [takesH, oRow, opsRows] at this; omega
    obtain ⟨kb, ko, rfl, hkb, q0⟩ := num1 HNK.out (j := 0) hk0
    simp only [Nat.add_zero] at q0
    have hkb1 : kb < w.heap.size + 1 := by omega
    have C1 := Lib.hid (CA.out (ks.getD 0 0))
    clear CA HB0 HNK HNT htk
    generalize allIs ks (ks.getD 0 0) = ab at C1 ⊢
    generalize ks.getD 0 0 = k0 at C1 q0
    cases ab
    all_goals
      go_enter Tryz.func128, Tryz.ntmps128
      go_wp2_with (go_at_call 149; ((with_reducible refine (C1.out _ (by repeat first|with_reducible exact Below.refl _ _|with_reducible refine Below.setCell ?_ (by first|omega|(simp;done)|(simp;omega)) _|with_reducible refine Below.alloc ?_ (by first|omega|(simp;done)|(simp;omega)) _|with_reducible refine Below.drew ?_|with_reducible refine Ext.on _ ?_ (by first|omega|(simp;done)|(simp;omega)))).mono ?_); rintro r _ ⟨rfl, y, rfl⟩))
      go_ret
      refine ⟨ret_int rfl, Cls.of ?_⟩
      repeat first|with_reducible exact Below.refl _ _|with_reducible refine Below.setCell ?_ (by first|omega|(simp;done)|(simp;omega)) _|with_reducible refine Below.alloc ?_ (by first|omega|(simp;done)|(simp;omega)) _|with_reducible refine Below.drew ?_|with_reducible refine Ext.on _ ?_ (by first|omega|(simp;done)|(simp;omega))
  · rw [show resR tys 18 e.ty e.col ks = (if allIs ks (ks.getD 0 0) = true then 2 else 0) from rfl]
    have hk0 : 0 < klen := by have := htk; simp [takesH, oRow, opsRows] at this; omega
    obtain ⟨kb, ko, rfl, hkb, q0⟩ := num1 HNK.out (j := 0) hk0
    simp only [Nat.add_zero] at q0
    have hkb1 : kb < w.heap.size + 1 := by omega
    have C1 := Lib.hid (CA.out (ks.getD 0 0))
    clear CA HB0 HNK HNT htk
    generalize allIs ks (ks.getD 0 0) = ab at C1 ⊢
    generalize ks.getD 0 0 = k0 at C1 q0
    cases ab
    all_goals
      go_enter Tryz.func128, Tryz.ntmps128
      go_wp2_with (go_at_call 149; ((with_reducible refine (C1.out _ (by repeat first|with_reducible exact Below.refl _ _|with_reducible refine Below.setCell ?_ (by first|omega|(simp;done)|(simp;omega)) _|with_reducible refine Below.alloc ?_ (by first|omega|(simp;done)|(simp;omega)) _|with_reducible refine Below.drew ?_|with_reducible refine Ext.on _ ?_ (by first|omega|(simp;done)|(simp;omega)))).mono ?_); rintro r _ ⟨rfl, y, rfl⟩))
      go_ret
      refine ⟨ret_int rfl, Cls.of ?_⟩
      repeat first|with_reducible exact Below.refl _ _|with_reducible refine Below.setCell ?_ (by first|omega|(simp;done)|(simp;omega)) _|with_reducible refine Below.alloc ?_ (by first|omega|(simp;done)|(simp;omega)) _|with_reducible refine Below.drew ?_|with_reducible refine Ext.on _ ?_ (by first|omega|(simp;done)|(simp;omega))
  · rw [show resR tys 19 e.ty e.col ks = (if allIs ks (ks.getD 0 0) = true then 2 else 0) from rfl]
    have hk0 : 0 < klen := by have := htk; simp [takesH, oRow, opsRows] at this; omega
    obtain ⟨kb, ko, rfl, hkb, q0⟩ := num1 HNK.out (j := 0) hk0
    simp only [Nat.add_zero] at q0
    have hkb1 : kb < w.heap.size + 1 := by omega
    have C1 := Lib.hid (CA.out (ks.getD 0 0))
    clear CA HB0 HNK HNT htk
    generalize allIs ks (ks.getD 0 0) = ab at C1 ⊢
    generalize ks.getD 0 0 = k0 at C1 q0
    cases ab
    all_goals
      go_enter Tryz.func128, Tryz.ntmps128
      go_wp2_with (go_at_call 149; ((with_reducible refine (C1.out _ (by repeat first|with_reducible exact Below.refl _ _|with_reducible refine Below.setCell ?_ (by first|omega|(simp;done)|(simp;omega)) _|with_reducible refine Below.alloc ?_ (by first|omega|(simp;done)|(simp;omega)) _|with_reducible refine Below.drew ?_|with_reducible refine Ext.on _ ?_ (by first|omega|(simp;done)|(simp;omega)))).mono ?_); rintro r _ ⟨rfl, y, rfl⟩))
      go_ret
      refine ⟨ret_int rfl, Cls.of ?_⟩
      repeat first|with_reducible exact Below.refl _ _|with_reducible refine Below.setCell ?_ (by first|omega|(simp;done)|(simp;omega)) _|with_reducible refine Below.alloc ?_ (by first|omega|(simp;done)|(simp;omega)) _|with_reducible refine Below.drew ?_|with_reducible refine Ext.on _ ?_ (by first|omega|(simp;done)|(simp;omega))
  · rw [show resR tys 20 e.ty e.col ks = (if allIs ks (ks.getD 0 0) = true then 2 else 0) from rfl]
    have hk0 : 0 < klen := by have := htk; simp [takesH, oRow, opsRows] at this; omega
    obtain ⟨kb, ko, rfl, hkb, q0⟩ := num1 HNK.out (j := 0) hk0
    simp only [Nat.add_zero] at q0
    have hkb1 : kb < w.heap.size + 1 := by omega
    have C1 := Lib.hid (CA.out (ks.getD 0 0))
    clear CA HB0 HNK HNT htk
    generalize allIs ks (ks.getD 0 0) = ab at C1 ⊢
    generalize ks.getD 0 0 = k0 at C1 q0
    cases ab
    all_goals
      go_enter Tryz.func128, Tryz.ntmps128
      go_wp2_with (go_at_call 149; ((with_reducible refine (C1.out _ (by repeat first|with_reducible exact Below.refl _ _|with_reducible refine Below.setCell ?_ (by first|omega|(simp;done)|(simp;omega)) _|with_reducible refine Below.alloc ?_ (by first|omega|(simp;done)|(simp;omega)) _|with_reducible refine Below.drew ?_|with_reducible refine Ext.on _ ?_ (by first|omega|(simp;done)|(simp;omega)))).mono ?_); rintro r _ ⟨rfl, y, rfl⟩))
      go_ret
      refine ⟨ret_int rfl, Cls.of ?_⟩
      repeat first|with_reducible exact Below.refl _ _|with_reducible refine Below.setCell ?_ (by first|omega|(simp;done)|(simp;omega)) _|with_reducible refine Below.alloc ?_ (by first|omega|(simp;done)|(simp;omega)) _|with_reducible refine Below.drew ?_|with_reducible refine Ext.on _ ?_ (by first|omega|(simp;done)|(simp;omega))
  · rw [show resR tys 21 e.ty e.col ks = 2 from rfl]
    clear CA HB0 HNK HNT
    go_enter Tryz.func128, Tryz.ntmps128
    go_wp2_with fail
    go_ret
    refine ⟨ret_int rfl, Cls.of ?_⟩
    repeat first|with_reducible exact Below.refl _ _|with_reducible refine Below.setCell ?_ (by first|omega|(simp;done)|(simp;omega)) _|with_reducible refine Below.alloc ?_ (by first|omega|(simp;done)|(simp;omega)) _|with_reducible refine Below.drew ?_|with_reducible refine Ext.on _ ?_ (by first|omega|(simp;done)|(simp;omega))
  · rw [show resR tys 22 e.ty e.col ks = (if allIs ks 2 = true then 2 else 0) from rfl]
    have C1 := Lib.hid (CA.out 2)
    clear CA HB0 HNK HNT
    generalize allIs ks 2 = ab at C1 ⊢
    cases ab
    all_goals
      go_enter Tryz.func128, Tryz.ntmps128
      go_wp2_with (go_at_call 149; ((with_reducible refine (C1.out _ (by repeat first|with_reducible exact Below.refl _ _|with_reducible refine Below.setCell ?_ (by first|omega|(simp;done)|(simp;omega)) _|with_reducible refine Below.alloc ?_ (by first|omega|(simp;done)|(simp;omega)) _|with_reducible refine Below.drew ?_|with_reducible refine Ext.on _ ?_ (by first|omega|(simp;done)|(simp;omega)))).mono ?_); rintro r _ ⟨rfl, y, rfl⟩))
      go_ret
      refine ⟨ret_int rfl, Cls.of ?_⟩
      repeat first|with_reducible exact Below.refl _ _|with_reducible refine Below.setCell ?_ (by first|omega|(simp;done)|(simp;omega)) _|with_reducible refine Below.alloc ?_ (by first|omega|(simp;done)|(simp;omega)) _|with_reducible refine Below.drew ?_|with_reducible refine Ext.on _ ?_ (by first|omega|(simp;done)|(simp;omega))
  · rw [show resR tys 23 e.ty e.col ks = (if allIs ks 2 = true then 2 else 0) from rfl]
    have C1 := Lib.hid (CA.out 2)
    clear CA HB0 HNK HNT
    generalize allIs ks 2 = ab at C1 ⊢
    cases ab
    all_goals
      go_enter Tryz.func128, Tryz.ntmps128
      go_wp2_with (go_at_call 149; ((with_reducible refine (C1.out _ (by repeat first|with_reducible exact Below.refl _ _|with_reducible refine Below.setCell ?_ (by first|omega|(simp;done)|(simp;omega)) _|with_reducible refine Below.alloc ?_ (by first|omega|(simp;done)|(simp;omega)) _|with_reducible refine Below.drew ?_|with_reducible refine Ext.on _ ?_ (by first|omega|(simp;done)|(simp;omega)))).mono ?_); rintro r _ ⟨rfl, y, rfl⟩))
      go_ret
      refine ⟨ret_int rfl, Cls.of ?_⟩
      repeat first|with_reducible exact Below.refl _ _|with_reducible refine Below.setCell ?_ (by first|omega|(simp;done)|(simp;omega)) _|with_reducible refine Below.alloc ?_ (by first|omega|(simp;done)|(simp;omega)) _|with_reducible refine Below.drew ?_|with_reducible refine Ext.on _ ?_ (by first|omega|(simp;done)|(simp;omega))
  · rw [show resR tys 24 e.ty e.col ks = (if allIs ks 2 = true then 2 else 0) from rfl]
    have C1 := Lib.hid (CA.out 2)
    clear CA HB0 HNK HNT
    generalize allIs ks 2 = ab at C1 ⊢
    cases ab
    all_goals
      go_enter Tryz.func128, Tryz.ntmps128
      go_wp2_with (go_at_call 149; ((with_reducible refine (C1.out _ (by repeat first|with_reducible exact Below.refl _ _|with_reducible refine Below.setCell ?_ (by first|omega|(simp;done)|(simp;omega)) _|with_reducible refine Below.alloc ?_ (by first|omega|(simp;done)|(simp;omega)) _|with_reducible refine Below.drew ?_|with_reducible refine Ext.on _ ?_ (by first|omega|(simp;done)|(simp;omega)))).mono ?_); rintro r _ ⟨rfl, y, rfl⟩))
      go_ret
      refine ⟨ret_int rfl, Cls.of ?_⟩
      repeat first|with_reducible exact Below.refl _ _|with_reducible refine Below.setCell ?_ (by first|omega|(simp;done)|(simp;omega)) _|with_reducible refine Below.alloc ?_ (by first|omega|(simp;done)|(simp;omega)) _|with_reducible refine Below.drew ?_|with_reducible refine Ext.on _ ?_ (by first|omega|(simp;done)|(simp;omega))
  · rw [show resR tys 25 e.ty e.col ks = (if allIs ks 2 = true then 2 else 0) from rfl]
    have C1 := Lib.hid (CA.out 2)
    clear CA HB0 HNK HNT
    generalize allIs ks 2 = ab at C1 ⊢
    cases ab
    all_goals
      go_enter Tryz.func128, Tryz.ntmps128
      go_wp2_with (go_at_call 149; ((with_reducible refine (C1.out _ (by repeat first|with_reducible exact Below.refl _ _|with_reducible refine Below.setCell ?_ (by first|omega|(simp;done)|(simp;omega)) _|with_reducible refine Below.alloc ?_ (by first|omega|(simp;done)|(simp;omega)) _|with_reducible refine Below.drew ?_|with_reducible refine Ext.on _ ?_ (by first|omega|(simp;done)|(simp;omega)))).mono ?_); rintro r _ ⟨rfl, y, rfl⟩))
      go_ret
      refine ⟨ret_int rfl, Cls.of ?_⟩
      repeat first|with_reducible exact Below.refl _ _|with_reducible refine Below.setCell ?_ (by first|omega|(simp;done)|(simp;omega)) _|with_reducible refine Below.alloc ?_ (by first|omega|(simp;done)|(simp;omega)) _|with_reducible refine Below.drew ?_|with_reducible refine Ext.on _ ?_ (by first|omega|(simp;done)|(simp;omega))
  · rw [show resR tys 26 e.ty e.col ks = (if ks.getD 0 0 = 2 then (if ks.getD 1 0 = ks.getD 2 0 then ks.getD 1 0 else 0) else 0) from rfl]
    have hk3 : klen = 3 := by have := htk; simpa [takesH, oRow, opsRows] using this
    obtain ⟨kb, ko, rfl, hkb, q0⟩ := num1 HNK.out (j := 0) (by omega)
    simp only [Nat.add_zero] at q0
    obtain ⟨kb1, ko1, hka1, _, q1⟩ := num1 HNK.out (j := 1) (by omega)
    obtain ⟨kb2, ko2, hka2, _, q2⟩ := num1 HNK.out (j := 2) (by omega)
    simp only [Option.some.injEq, Addr.mk.injEq, and_true] at hka1 hka2
    obtain ⟨rfl, rfl⟩ := hka1
    obtain ⟨rfl, rfl⟩ := hka2
    have hkb1 : kb < w.heap.size + 1 := by omega
    clear CA HB0 HNK HNT htk
    generalize ks.getD 0 0 = k0 at q0 ⊢
    generalize ks.getD 1 0 = k1 at q1 ⊢
    generalize ks.getD 2 0 = k2 at q2 ⊢
    by_cases c0 : k0 = 2
    · by_cases c1 : k1 = k2
      · rw [if_pos c0, if_pos c1]
        have b0 : (k0 == 2) = true := by simp [c0]
        have b1 : (k1 == k2) = true := by simp [c1]
        clear c0 c1
        go_enter Tryz.func128, Tryz.ntmps128
        go_wp2_with fail
        refine wp_region_ext (by kernel_rfl) (by kernel_rfl) ?_
        repeat (go_big_quiet_step (fail))
        refine wpQuiet_nil ?_
        rintro _ ⟨y, rfl⟩
        go_wp2_with fail
        go_ret
        refine ⟨ret_int rfl, Cls.of ?_⟩
        repeat first|with_reducible exact Below.refl _ _|with_reducible refine Below.setCell ?_ (by first|omega|(simp;done)|(simp;omega)) _|with_reducible refine Below.alloc ?_ (by first|omega|(simp;done)|(simp;omega)) _|with_reducible refine Below.drew ?_|with_reducible refine Ext.on _ ?_ (by first|omega|(simp;done)|(simp;omega))
      · rw [if_pos c0, if_neg c1]
        have b0 : (k0 == 2) = true := by simp [c0]
        have b1 : (k1 == k2) = false := by simp [c1]
        clear c0 c1
        go_enter Tryz.func128, Tryz.ntmps128
        go_wp2_with fail
        refine wp_region_ext (by kernel_rfl) (by kernel_rfl) ?_
        repeat (go_big_quiet_step (fail))
        refine wpQuiet_nil ?_
        rintro _ ⟨y, rfl⟩
        go_wp2_with fail
        go_ret
        refine ⟨ret_int rfl, Cls.of ?_⟩
        repeat first|with_reducible exact Below.refl _ _|with_reducible refine Below.setCell ?_ (by first|omega|(simp;done)|(simp;omega)) _|with_reducible refine Below.alloc ?_ (by first|omega|(simp;done)|(simp;omega)) _|with_reducible refine Below.drew ?_|with_reducible refine Ext.on _ ?_ (by first|omega|(simp;done)|(simp;omega))
    · rw [if_neg c0]
      have b0 : (k0 == 2) = false := by simp [c0]
      clear c0
      go_enter Tryz.func128, Tryz.ntmps128
      go_wp2_with fail
      refine wp_region_ext (by kernel_rfl) (by kernel_rfl) ?_
      repeat (go_big_quiet_step (fail))
      refine wpQuiet_nil ?_
      rintro _ ⟨y, rfl⟩
      go_wp2_with fail
      go_ret
      refine ⟨ret_int rfl, Cls.of ?_⟩
      repeat first|with_reducible exact Below.refl _ _|with_reducible refine Below.setCell ?_ (by first|omega|(simp;done)|(simp;omega)) _|with_reducible refine Below.alloc ?_ (by first|omega|(simp;done)|(simp;omega)) _|with_reducible refine Below.drew ?_|with_reducible refine Ext.on _ ?_ (by first|omega|(simp;done)|(simp;omega))
  · rw [show resR tys 27 e.ty e.col ks = (if ks.getD 0 0 = ks.getD 1 0 then ks.getD 0 0 else 0) from rfl]
    have hk3 : klen = 2 := by have := htk; simpa [takesH, oRow, opsRows] using this
    obtain ⟨kb, ko, rfl, hkb, q0⟩ := num1 HNK.out (j := 0) (by omega)
    simp only [Nat.add_zero] at q0
    obtain ⟨kb1, ko1, hka1, _, q1⟩ := num1 HNK.out (j := 1) (by omega)
    simp only [Option.some.injEq, Addr.mk.injEq, and_true] at hka1
    obtain ⟨rfl, rfl⟩ := hka1
    have hkb1 : kb < w.heap.size + 1 := by omega
    clear CA HB0 HNK HNT htk
    generalize ks.getD 0 0 = k0 at q0 ⊢
    generalize ks.getD 1 0 = k1 at q1 ⊢
    by_cases c1 : k0 = k1
    · rw [if_pos c1]
      have b1 : (k0 == k1) = true := by simp [c1]
      clear c1
      go_enter Tryz.func128, Tryz.ntmps128
      go_wp2_with fail
      refine wp_region_ext (by kernel_rfl) (by kernel_rfl) ?_
      repeat (go_big_quiet_step (fail))
      refine wpQuiet_nil ?_
      rintro _ ⟨y, rfl⟩
      go_wp2_with fail
      go_ret
      refine ⟨ret_int rfl, Cls.of ?_⟩
      repeat first|with_reducible exact Below.refl _ _|with_reducible refine Below.setCell ?_ (by first|omega|(simp;done)|(simp;omega)) _|with_reducible refine Below.alloc ?_ (by first|omega|(simp;done)|(simp;omega)) _|with_reducible refine Below.drew ?_|with_reducible refine Ext.on _ ?_ (by first|omega|(simp;done)|(simp;omega))
    · rw [if_neg c1]
      have b1 : (k0 == k1) = false := by simp [c1]
      clear c1
      go_enter Tryz.func128, Tryz.ntmps128
      go_wp2_with fail
      refine wp_region_ext (by kernel_rfl) (by kernel_rfl) ?_
      repeat (go_big_quiet_step (fail))
      refine wpQuiet_nil ?_
      rintro _ ⟨y, rfl⟩
      go_wp2_with fail
      go_ret
      refine ⟨ret_int rfl, Cls.of ?_⟩
      repeat first|with_reducible exact Below.refl _ _|with_reducible refine Below.setCell ?_ (by first|omega|(simp;done)|(simp;omega)) _|with_reducible refine Below.alloc ?_ (by first|omega|(simp;done)|(simp;omega)) _|with_reducible refine Below.drew ?_|with_reducible refine Ext.on _ ?_ (by first|omega|(simp;done)|(simp;omega))
  · rw [show resR tys 28 e.ty e.col ks = (if allIs ks (ks.getD 0 0) = true then 2 else 0) from rfl]
    have hk0 : 0 < klen := by have := htk; simp [takesH, oRow, opsRows] at this; omega
    obtain ⟨kb, ko, rfl, hkb, q0⟩ := num1 HNK.out (j := 0) hk0
    simp only [Nat.add_zero] at q0
    have hkb1 : kb < w.heap.size + 1 := by omega
    have C1 := Lib.hid (CA.out (ks.getD 0 0))
    clear CA HB0 HNK HNT htk
    generalize allIs ks (ks.getD 0 0) = ab at C1 ⊢
    generalize ks.getD 0 0 = k0 at C1 q0
    cases ab
    all_goals
      go_enter Tryz.func128, Tryz.ntmps128
      go_wp2_with (go_at_call 149; ((with_reducible refine (C1.out _ (by repeat first|with_reducible exact Below.refl _ _|with_reducible refine Below.setCell ?_ (by first|omega|(simp;done)|(simp;omega)) _|with_reducible refine Below.alloc ?_ (by first|omega|(simp;done)|(simp;omega)) _|with_reducible refine Below.drew ?_|with_reducible refine Ext.on _ ?_ (by first|omega|(simp;done)|(simp;omega)))).mono ?_); rintro r _ ⟨rfl, y, rfl⟩))
      go_ret
      refine ⟨ret_int rfl, Cls.of ?_⟩
      repeat first|with_reducible exact Below.refl _ _|with_reducible refine Below.setCell ?_ (by first|omega|(simp;done)|(simp;omega)) _|with_reducible refine Below.alloc ?_ (by first|omega|(simp;done)|(simp;omega)) _|with_reducible refine Below.drew ?_|with_reducible refine Ext.on _ ?_ (by first|omega|(simp;done)|(simp;omega))
end Go.Proofs.YtdmhmlnfoocnjaaGreatDoor
