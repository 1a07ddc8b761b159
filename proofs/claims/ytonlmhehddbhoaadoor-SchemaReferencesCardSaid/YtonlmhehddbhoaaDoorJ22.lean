/-
  The types of a table's columns, the program's Types and the reference's; two lists of numbers compared. The program's Types. The parts of the program's Type: what an operation may have, the type of a column, and the type of an operation over its Kids; depth and size of any expression.
-/
import Derived.Test.YtonlmhehddbhoaaDoorJ07
import Derived.Test.YtonlmhehddbhoaaDoorJ21
import Derived.Maps.AppendAt
import Derived.OwnWalk
import Derived.Laws.Entries
import Derived.Test.YtonlmhehddbhoaaDoorJ15
import Derived.Test.YtonlmhehddbhoaaDoorJ10
set_option linter.unusedVariables false
namespace Go.Proofs.YtonlmhehddbhoaaDoor
open Go Go.RowKit Go.Deep
theorem own_later' {w w' : World} {base size n : Nat} {e : TypeId} {v : Value} {xs : List Value} (h : w.ownsRow base e size v n xs) (hb : Below w.heap.size w w') : w'.ownsRow base e size v n xs := by
  refine ⟨h.1, h.2.imp id ?_⟩
  rintro ⟨g, cap, cur, hv, hg, hh, rest⟩
  exact ⟨g, cap, cur, hv, hg, (hb.block g (Array.getElem?_eq_some_iff.1 hh).1).trans hh, rest⟩
/-- A row of numbers that a call made, as a slice. -/
theorem sl_of {w : World} {base : Nat} {v : Value} {l : List Int} (h : w.ownsRow base 3 1 v l.length (flatI l)) : ∃ s : Sl, v = s.v ∧ s.len = l.length ∧ SlAt w 1 s (intC fun i => l.getD i 0) := by
  rcases h.2 with ⟨rfl, h0⟩ | ⟨g, cap, cur, rfl, hb, hh, hn, hc, hr, ht⟩
  · exact ⟨Sl.z, rfl, h0.symm, ⟨Nat.le_refl _, Nat.zero_le _, fun _ => ⟨rfl, rfl⟩, fun i hi => absurd hi (by simp [Sl.z])⟩⟩
  · refine ⟨⟨some ⟨g, 0, none⟩, l.length, cap⟩, rfl, rfl, ⟨hn, hc, (fun h => by cases h), fun i hi => ⟨g, 0, rfl, (Array.getElem?_eq_some_iff.1 hh).1, fun j hj => ?_⟩⟩⟩
    have hi2 : i < l.length := hi
    have hcell := World.ownsRow.cells h (g := g) rfl
    have hadd : ∀ j, (⟨g, 0, none⟩ : Addr).add j = ⟨g, 0 + j, none⟩ := fun j => by unfold Addr.add; split <;> simp_all
    have c0 := hcell i (.int .i64 (l.getD i 0)) (by simp [flatI, List.getD, hi2])
    rw [hadd] at c0
    obtain rfl : j = 0 := by omega
    rw [Nat.mul_one, Nat.add_zero, c0]; rfl
set_option maxHeartbeats 4000000 in
set_option maxRecDepth 20000 in
theorem rTypes_calls (t : Tb) (w : World) (h : TbAt w t) (hl : t.cs.len ≤ 1000) :
    Calls Tryd.prog 45 #[.agg #[.string t.name, .slice t.cs.a t.cs.len t.cs.cap, .slice t.ps.a t.ps.len t.ps.cap, .slice t.us.a t.us.len t.us.cap, .slice t.fs.a t.fs.len t.fs.cap, .slice t.ks.a t.ks.len t.ks.cap]] w fun r w' => ∃ s : Sl, r = .returned s.v ∧ s.len = t.cs.len ∧ SlAt w' 1 s (intC fun i => (tyL t.col t.cs.len).getD i 0) ∧ Cls w w' := by
  obtain ⟨i0, hi, hz0, hz1, hz2⟩ := info_parts infoI
  have hle := h.cols.1
  have hmax := h.cols.2.1
  unfold maxLen at hmax
  have H := Lib.hid h.cols
  clear h
  obtain ⟨tn, ⟨sa, sn, sc⟩, f, tps, tprim, tus, tuq, tuqn, tfs, tfk, tfkn, tfkt, tks, tch⟩ := t
  simp only at hl hle hmax H ⊢
  go_enter Tryd.func45, Tryd.ntmps45
  go_wp2_with fail
  go_loopw [3, 4] (fun u i wr => ∃ j : Nat, j ≤ sn ∧ i = .int .i64 j ∧ wr.ownsRow (w.heap.size + 1) 3 1 u (tyL f j).length (flatI (tyL f j)) ∧ Cls (w.alloc (.cells #[.string tn, .slice sa sn sc, .slice tps.a tps.len tps.cap, .slice tus.a tus.len tus.cap, .slice tfs.a tfs.len tfs.cap, .slice tks.a tks.len tks.cap] 53)) wr) (fun _ i _ => sn - (intOf i).toNat)
  case atStart => exact ⟨0, Nat.zero_le _, rfl, World.ownsRow_nil _ _ _ 1, Cls.of (Below.refl _ _)⟩
  case round =>
    obtain ⟨j, hj, rfl, hown, x, rfl⟩ := hrel
    have HO := Lib.hid hown
    clear hown
    have xs := x.size
    have xs2 : w.heap.size + 1 ≤ x.val.heap.size := by simpa using xs
    have HLJ := Lib.hid (tyL_len f j)
    by_cases hlt : j < sn
    · obtain ⟨b, off, ha, hb2, hc⟩ := H.out.2.2.2 j hlt
      simp only at ha
      subst ha
      have q0 := hc 0 (by omega)
      have q1 := hc 1 (by omega)
      have q2 := hc 2 (by omega)
      simp only [Cl.cells, List.getElem?_cons_zero, List.getElem?_cons_succ, Nat.add_zero] at q0 q1 q2
      have hb1 : b < w.heap.size + 1 := by omega
      have HG0 := Lib.hid (tyL_go f j)
      clear hc
      generalize f j = c at q0 q1 q2 HG0
      go_wp2_with (at_builtin; refine wpList_append_own_at _ rfl _ _ 22 rfl (w.heap.size + 1) 3 i0 (.int .i64 0) 1 8 Tryd.underlying22 hi hz0 hz1 hz2 rfl (by decide) _ (tyL f j).length (flatI (tyL f j)) rfl (own_later' HO.out (by repeat first | with_reducible exact Below.refl _ _ | with_reducible refine Below.setCell ?_ (by first | omega | (simp; done) | (simp; omega)) _ | with_reducible refine Below.alloc ?_ (by first | omega | (simp; done) | (simp; omega)) _ | with_reducible refine Below.drew ?_ | with_reducible refine Ext.on _ ?_ (by first | omega | (simp; done) | (simp; omega)))) ⟨x.val.heap.size, 0, none⟩ 1 1 [.int .i64 c.ty] rfl rfl (cells_new' _ _ _) (int_one _) (by have := HLJ.out; unfold maxLen; omega) (by have := HLJ.out; omega) (by simp; omega) ?_; intro v3 w3 hown3 hg3 _ hat3; have HO3 := Lib.hid hown3; have HG := Lib.hid hg3; clear hown3 hg3 hat3)
      go_roundw
      case rel =>
        refine ⟨j + 1, by omega, by go_num, by rw [HG0.out, List.length_append, flatI_append]; exact HO3.out, Cls.of (Below.mono (Below.grown (w := x.val.alloc _) ?_ HG.out (by simp; omega) (fun k hk => (HO.out.lt k hk).1)) (by simp))⟩
        repeat first | with_reducible exact Below.refl _ _ | with_reducible refine Below.setCell ?_ (by first | omega | (simp; done) | (simp; omega)) _ | with_reducible refine Below.alloc ?_ (by first | omega | (simp; done) | (simp; omega)) _ | with_reducible refine Below.drew ?_ | with_reducible refine Ext.on _ ?_ (by first | omega | (simp; done) | (simp; omega))
      case measure => simp [intOf]; omega
    · have hj2 : sn = j := by omega
      subst hj2
      obtain ⟨s, hs, hsl, hat⟩ := sl_of HO.out
      subst hs
      have hlen := tyL_len f sn
      have HS := Lib.hid hat
      have HL := Lib.hid (hsl.trans hlen)
      clear hat hsl hlen
      go_wp2_with fail
      go_ret
      refine ⟨s, rfl, HL.out, HS.out, Cls.of ?_⟩
      repeat first | with_reducible exact Below.refl _ _ | with_reducible refine Below.setCell ?_ (by first | omega | (simp; done) | (simp; omega)) _ | with_reducible refine Below.alloc ?_ (by first | omega | (simp; done) | (simp; omega)) _ | with_reducible refine Below.drew ?_ | with_reducible refine Ext.on _ ?_ (by first | omega | (simp; done) | (simp; omega))
end Go.Proofs.YtonlmhehddbhoaaDoor
set_option linter.unusedVariables false
namespace Go.Proofs.YtonlmhehddbhoaaDoor
open Go Go.RowKit Go.Deep
set_option maxHeartbeats 4000000 in
set_option maxRecDepth 20000 in
theorem sTypes_calls (t : Tb) (w : World) (h : TbAt w t) (hl : t.cs.len ≤ 1000) :
    Calls Tryd.prog 109 #[.agg #[.string t.name, .slice t.cs.a t.cs.len t.cs.cap, .slice t.ps.a t.ps.len t.ps.cap, .slice t.us.a t.us.len t.us.cap, .slice t.fs.a t.fs.len t.fs.cap, .slice t.ks.a t.ks.len t.ks.cap]] w fun r w' => ∃ s : Sl, r = .returned s.v ∧ s.len = t.cs.len ∧ SlAt w' 1 s (intC fun i => (tyL t.col t.cs.len).getD i 0) ∧ Cls w w' := by
  obtain ⟨i0, hi, hz0, hz1, hz2⟩ := info_parts infoI
  have hle := h.cols.1
  have hmax := h.cols.2.1
  unfold maxLen at hmax
  have H := Lib.hid h.cols
  clear h
  obtain ⟨tn, ⟨sa, sn, sc⟩, f, tps, tprim, tus, tuq, tuqn, tfs, tfk, tfkn, tfkt, tks, tch⟩ := t
  simp only at hl hle hmax H ⊢
  go_enter Tryd.func109, Tryd.ntmps109
  go_wp2_with fail
  go_loopw [3, 9] (fun u i wr => ∃ j : Nat, j ≤ sn ∧ i = .int .i64 j ∧ wr.ownsRow (w.heap.size + 1) 3 1 u (tyL f j).length (flatI (tyL f j)) ∧ Cls (w.alloc (.cells #[.string tn, .slice sa sn sc, .slice tps.a tps.len tps.cap, .slice tus.a tus.len tus.cap, .slice tfs.a tfs.len tfs.cap, .slice tks.a tks.len tks.cap] 53)) wr) (fun _ i _ => sn - (intOf i).toNat)
  case atStart => exact ⟨0, Nat.zero_le _, rfl, World.ownsRow_nil _ _ _ 1, Cls.of (Below.refl _ _)⟩
  case round =>
    obtain ⟨j, hj, rfl, hown, x, rfl⟩ := hrel
    have HO := Lib.hid hown
    clear hown
    have xs := x.size
    have xs2 : w.heap.size + 1 ≤ x.val.heap.size := by simpa using xs
    have HLJ := Lib.hid (tyL_len f j)
    by_cases hlt : j < sn
    · obtain ⟨b, off, ha, hb2, hc⟩ := H.out.2.2.2 j hlt
      simp only at ha
      subst ha
      have q0 := hc 0 (by omega)
      have q1 := hc 1 (by omega)
      have q2 := hc 2 (by omega)
      simp only [Cl.cells, List.getElem?_cons_zero, List.getElem?_cons_succ, Nat.add_zero] at q0 q1 q2
      have hb1 : b < w.heap.size + 1 := by omega
      have HG0 := Lib.hid (tyL_go f j)
      clear hc
      generalize f j = c at q0 q1 q2 HG0
      go_wp2_with (at_builtin; refine wpList_append_own_at _ rfl _ _ 22 rfl (w.heap.size + 1) 3 i0 (.int .i64 0) 1 8 Tryd.underlying22 hi hz0 hz1 hz2 rfl (by decide) _ (tyL f j).length (flatI (tyL f j)) rfl (own_later' HO.out (by repeat first | with_reducible exact Below.refl _ _ | with_reducible refine Below.setCell ?_ (by first | omega | (simp; done) | (simp; omega)) _ | with_reducible refine Below.alloc ?_ (by first | omega | (simp; done) | (simp; omega)) _ | with_reducible refine Below.drew ?_ | with_reducible refine Ext.on _ ?_ (by first | omega | (simp; done) | (simp; omega)))) ⟨x.val.heap.size + 1, 0, none⟩ 1 1 [.int .i64 c.ty] rfl rfl (fun j u hu => by have h9 := cells_new' (x.val.alloc (.cells #[.string c.name, .int .i64 c.ty, .bool c.null] 55)) [.int .i64 c.ty] 3 j u hu; simpa using h9) (int_one _) (by have := HLJ.out; unfold maxLen; omega) (by have := HLJ.out; omega) (by simp; omega) ?_; intro v3 w3 hown3 hg3 _ hat3; have HO3 := Lib.hid hown3; have HG := Lib.hid hg3; clear hown3 hg3 hat3)
      go_roundw
      case rel =>
        refine ⟨j + 1, by omega, by go_num, by rw [HG0.out, List.length_append, flatI_append]; exact HO3.out, Cls.of (Below.mono (Below.grown (w := (x.val.alloc _).alloc _) ?_ HG.out (by simp; omega) (fun k hk => (HO.out.lt k hk).1)) (by simp))⟩
        repeat first | with_reducible exact Below.refl _ _ | with_reducible refine Below.setCell ?_ (by first | omega | (simp; done) | (simp; omega)) _ | with_reducible refine Below.alloc ?_ (by first | omega | (simp; done) | (simp; omega)) _ | with_reducible refine Below.drew ?_ | with_reducible refine Ext.on _ ?_ (by first | omega | (simp; done) | (simp; omega))
      case measure => simp [intOf]; omega
    · have hj2 : sn = j := by omega
      subst hj2
      obtain ⟨s, hs, hsl, hat⟩ := sl_of HO.out
      subst hs
      have hlen := tyL_len f sn
      have HS := Lib.hid hat
      have HL := Lib.hid (hsl.trans hlen)
      clear hat hsl hlen
      go_wp2_with fail
      go_ret
      refine ⟨s, rfl, HL.out, HS.out, Cls.of ?_⟩
      repeat first | with_reducible exact Below.refl _ _ | with_reducible refine Below.setCell ?_ (by first | omega | (simp; done) | (simp; omega)) _ | with_reducible refine Below.alloc ?_ (by first | omega | (simp; done) | (simp; omega)) _ | with_reducible refine Below.drew ?_ | with_reducible refine Ext.on _ ?_ (by first | omega | (simp; done) | (simp; omega))
end Go.Proofs.YtonlmhehddbhoaaDoor
set_option linter.unusedVariables false
namespace Go.Proofs.YtonlmhehddbhoaaDoor
open Go Go.RowKit Go.Deep
/-- A list of numbers behind a slice. -/
def NumIn (w : World) (a : Option Addr) (len cap : Nat) (l : List Int) : Prop :=
  l.length = len ∧ len ≤ cap ∧ cap ≤ maxLen ∧ (len = 0 ∨ ∃ b off, a = some ⟨b, off, none⟩ ∧ b < w.heap.size ∧ ∀ i, i < len → w.cell? ⟨b, off + i, none⟩ = some (.int .i64 (l.getD i 0)))
theorem NumIn.later {w w' : World} {a : Option Addr} {len cap : Nat} {l : List Int} (h : NumIn w a len cap l) (hb : Below w.heap.size w w') : NumIn w' a len cap l := by
  refine ⟨h.1, h.2.1, h.2.2.1, h.2.2.2.imp id ?_⟩
  rintro ⟨b, off, ha, hlt, hc⟩
  refine ⟨b, off, ha, Nat.lt_of_lt_of_le hlt hb.size, fun i hi => ?_⟩
  rw [hb.cell (p := ⟨b, _, none⟩) hlt]
  exact hc i hi
set_option maxHeartbeats 1000000 in
theorem isType_calls (t : Int) (w : World) (h : t = 1 ∨ t = 2 ∨ t = 3) :
    Calls Tryd.prog 92 #[.int .i64 t] w fun r w' => r = .returned (.bool true) ∧ Cls w w' := by
  rcases h with rfl | rfl | rfl
  all_goals
    go_enter Tryd.func92, Tryd.ntmps92
    go_wp2_with fail
    go_ret
    refine ⟨ret_bool rfl, Cls.of ?_⟩
    repeat first | with_reducible exact Below.refl _ _ | with_reducible refine Below.setCell ?_ (by first | omega | (simp; done) | (simp; omega)) _ | with_reducible refine Below.alloc ?_ (by first | omega | (simp; done) | (simp; omega)) _ | with_reducible refine Below.drew ?_ | with_reducible refine Ext.on _ ?_ (by first | omega | (simp; done) | (simp; omega))
set_option maxHeartbeats 1000000 in
theorem columnType_calls (l : List Int) (c : Nat) (a : Option Addr) (len cap : Nat) (w : World) (h : NumIn w a len cap l) (hc : c < len) (ht : l.getD c 0 = 1 ∨ l.getD c 0 = 2 ∨ l.getD c 0 = 3) :
    Calls Tryd.prog 61 #[.slice a len cap, .int .i64 (c : Nat)] w fun r w' => r = .returned (.tuple #[.int .i64 (l.getD c 0), .int .i64 0]) ∧ Cls w w' := by
  obtain ⟨hl, hle, hmax, hh⟩ := h
  unfold maxLen at hmax
  obtain ⟨b, off, rfl, hb, hcell⟩ := hh.resolve_left (by omega)
  have q := hcell c hc
  have b1 : decide ((c : Int) < 0) = false := by simp
  have b2 : decide ((len : Int) ≤ (c : Int)) = false := by simp; omega
  have C1 := Lib.hid (fun W => isType_calls (l.getD c 0) W ht)
  clear hcell ht hh
  generalize l.getD c 0 = t at *
  go_enter Tryd.func61, Tryd.ntmps61
  go_wp2_with (go_at_call 92; ((with_reducible refine (C1.out _).mono ?_); rintro r _ ⟨rfl, y, rfl⟩))
  go_ret2
  refine ⟨rfl, Cls.of ?_⟩
  repeat first | with_reducible exact Below.refl _ _ | with_reducible refine Below.setCell ?_ (by first | omega | (simp; done) | (simp; omega)) _ | with_reducible refine Below.alloc ?_ (by first | omega | (simp; done) | (simp; omega)) _ | with_reducible refine Below.drew ?_ | with_reducible refine Ext.on _ ?_ (by first | omega | (simp; done) | (simp; omega))
def Only (ty num : Int) (text : ByteArray) (col f : Int) : Prop := (ty = 0 ∨ f = 0) ∧ (num = 0 ∨ f = 1) ∧ (text = ⟨#[]⟩ ∨ f = 2) ∧ (col = 0 ∨ f = 3)
set_option maxHeartbeats 2000000 in
theorem hasOnly_calls (op ty num : Int) (text : ByteArray) (col : Int) (a : Option Addr) (len cap : Nat) (f : Int) (w : World) (h : Only ty num text col f) :
    Calls Tryd.prog 59 #[.agg #[.int .i64 op, .int .i64 ty, .int .i64 num, .string text, .int .i64 col, .slice a len cap], .int .i64 f] w fun r w' => r = .returned (.bool true) ∧ Cls w w' := by
  obtain ⟨h0, h1, h2, h3⟩ := h
  by_cases f0 : f = 0
  · subst f0
    obtain rfl := h1.resolve_right (by decide)
    obtain rfl := h2.resolve_right (by decide)
    obtain rfl := h3.resolve_right (by decide)
    go_enter Tryd.func59, Tryd.ntmps59
    go_wp2_with fail
    all_goals
      go_ret
      refine ⟨ret_bool (by first | rfl | (simp; done)), Cls.of ?_⟩
      repeat first | with_reducible exact Below.refl _ _ | with_reducible refine Below.setCell ?_ (by first | omega | (simp; done) | (simp; omega)) _ | with_reducible refine Below.alloc ?_ (by first | omega | (simp; done) | (simp; omega)) _ | with_reducible refine Below.drew ?_ | with_reducible refine Ext.on _ ?_ (by first | omega | (simp; done) | (simp; omega))
  obtain rfl := h0.resolve_right f0
  by_cases f1 : f = 1
  · subst f1
    obtain rfl := h2.resolve_right (by decide)
    obtain rfl := h3.resolve_right (by decide)
    go_enter Tryd.func59, Tryd.ntmps59
    go_wp2_with fail
    all_goals
      go_ret
      refine ⟨ret_bool (by first | rfl | (simp; done)), Cls.of ?_⟩
      repeat first | with_reducible exact Below.refl _ _ | with_reducible refine Below.setCell ?_ (by first | omega | (simp; done) | (simp; omega)) _ | with_reducible refine Below.alloc ?_ (by first | omega | (simp; done) | (simp; omega)) _ | with_reducible refine Below.drew ?_ | with_reducible refine Ext.on _ ?_ (by first | omega | (simp; done) | (simp; omega))
  obtain rfl := h1.resolve_right f1
  by_cases f2 : f = 2
  · subst f2
    obtain rfl := h3.resolve_right (by decide)
    go_enter Tryd.func59, Tryd.ntmps59
    go_wp2_with fail
    all_goals
      go_ret
      refine ⟨ret_bool (by first | rfl | (simp; done)), Cls.of ?_⟩
      repeat first | with_reducible exact Below.refl _ _ | with_reducible refine Below.setCell ?_ (by first | omega | (simp; done) | (simp; omega)) _ | with_reducible refine Below.alloc ?_ (by first | omega | (simp; done) | (simp; omega)) _ | with_reducible refine Below.drew ?_ | with_reducible refine Ext.on _ ?_ (by first | omega | (simp; done) | (simp; omega))
  obtain rfl := h2.resolve_right f2
  by_cases f3 : f = 3
  · subst f3
    go_enter Tryd.func59, Tryd.ntmps59
    go_wp2_with fail
    all_goals
      go_ret
      refine ⟨ret_bool (by first | rfl | (simp; done)), Cls.of ?_⟩
      repeat first | with_reducible exact Below.refl _ _ | with_reducible refine Below.setCell ?_ (by first | omega | (simp; done) | (simp; omega)) _ | with_reducible refine Below.alloc ?_ (by first | omega | (simp; done) | (simp; omega)) _ | with_reducible refine Below.drew ?_ | with_reducible refine Ext.on _ ?_ (by first | omega | (simp; done) | (simp; omega))
  obtain rfl := h3.resolve_right f3
  go_enter Tryd.func59, Tryd.ntmps59
  go_wp2_with fail
  all_goals
    go_ret
    refine ⟨ret_bool (by first | rfl | (simp; done)), Cls.of ?_⟩
    repeat first | with_reducible exact Below.refl _ _ | with_reducible refine Below.setCell ?_ (by first | omega | (simp; done) | (simp; omega)) _ | with_reducible refine Below.alloc ?_ (by first | omega | (simp; done) | (simp; omega)) _ | with_reducible refine Below.drew ?_ | with_reducible refine Ext.on _ ?_ (by first | omega | (simp; done) | (simp; omega))
def Perm (op ty num : Int) (text : ByteArray) : Prop := 5 ≤ op ∨ (op = 1 ∧ (ty = 1 ∨ ty = 2 ∨ ty = 3)) ∨ ((op = 2 ∨ op = 3 ∨ op = 4) ∧ vB (litV op num text).k (litV op num text).n (litV op num text).s = true)
set_option maxHeartbeats 2000000 in
theorem permitted_calls (e : Ex) (a : Option Addr) (len cap : Nat) (w : World) (h : Perm e.op e.ty e.num e.text) (hs : e.text.size ≤ maxLen) :
    Calls Tryd.prog 60 #[.agg #[.int .i64 e.op, .int .i64 e.ty, .int .i64 e.num, .string e.text, .int .i64 e.col, .slice a len cap]] w fun r w' => r = .returned (.bool true) ∧ Cls w w' := by
  rcases h with h | ⟨h, ht⟩ | ⟨h, hv⟩
  · have b1 : (e.op == 1) = false := by simp; omega
    have b2 : (e.op == 2) = false := by simp; omega
    have b3 : (e.op == 3) = false := by simp; omega
    have b4 : (e.op == 4) = false := by simp; omega
    go_enter Tryd.func60, Tryd.ntmps60
    go_wp2_with fail
    go_ret
    refine ⟨ret_bool rfl, Cls.of ?_⟩
    repeat first | with_reducible exact Below.refl _ _ | with_reducible refine Below.setCell ?_ (by first | omega | (simp; done) | (simp; omega)) _ | with_reducible refine Below.alloc ?_ (by first | omega | (simp; done) | (simp; omega)) _ | with_reducible refine Below.drew ?_ | with_reducible refine Ext.on _ ?_ (by first | omega | (simp; done) | (simp; omega))
  · have b1 : (e.op == 1) = true := by simp [h]
    have C1 := Lib.hid (fun W => isType_calls e.ty W ht)
    clear ht h
    go_enter Tryd.func60, Tryd.ntmps60
    go_wp2_with (go_at_call 92; ((with_reducible refine (C1.out _).mono ?_); rintro r _ ⟨rfl, y, rfl⟩))
    go_ret
    refine ⟨ret_bool rfl, Cls.of ?_⟩
    repeat first | with_reducible exact Below.refl _ _ | with_reducible refine Below.setCell ?_ (by first | omega | (simp; done) | (simp; omega)) _ | with_reducible refine Below.alloc ?_ (by first | omega | (simp; done) | (simp; omega)) _ | with_reducible refine Below.drew ?_ | with_reducible refine Ext.on _ ?_ (by first | omega | (simp; done) | (simp; omega))
  · have hsz : (litV e.op e.num e.text).s.size ≤ maxLen := by
      unfold litV
      split
      · exact Nat.zero_le _
      · split
        · exact Nat.zero_le _
        · split
          · exact hs
          · exact Nat.zero_le _
    have CL : Hid (∀ W, Calls Tryd.prog 29 #[.agg #[.int .i64 e.op, .int .i64 e.ty, .int .i64 e.num, .string e.text, .int .i64 e.col, .slice a len cap]] W fun r w' => r = .returned (.agg #[.int .i64 (litV e.op e.num e.text).k, .int .i64 (litV e.op e.num e.text).n, .string (litV e.op e.num e.text).s]) ∧ Cls W w') := Lib.hid (fun W => literal_calls e a len cap W (by omega))
    have CV : Hid (∀ W, Calls Tryd.prog 93 #[.agg #[.int .i64 (litV e.op e.num e.text).k, .int .i64 (litV e.op e.num e.text).n, .string (litV e.op e.num e.text).s]] W fun r w' => r = .returned (.bool true) ∧ Cls W w') := Lib.hid (fun W => by
      have := Valid_calls (litV e.op e.num e.text).k (litV e.op e.num e.text).n (litV e.op e.num e.text).s W hsz
      rw [hv] at this
      exact this)
    clear hv hsz hs
    generalize litV e.op e.num e.text = v at CL CV
    have b1 : (e.op == 1) = false := by simp; omega
    rcases h with h | h | h
    · have b2 : (e.op == 2) = true := by simp [h]
      clear h
      go_enter Tryd.func60, Tryd.ntmps60
      go_wp2_with (first | (go_at_call 29; ((with_reducible refine (CL.out _).mono ?_); rintro r _ ⟨rfl, y, rfl⟩; have ys := y.size; simp at ys)) | (go_at_call 93; ((with_reducible refine (CV.out _).mono ?_); rintro r _ ⟨rfl, y2, rfl⟩)))
      go_ret
      refine ⟨ret_bool rfl, Cls.of ?_⟩
      repeat first | with_reducible exact Below.refl _ _ | with_reducible refine Below.setCell ?_ (by first | omega | (simp; done) | (simp; omega)) _ | with_reducible refine Below.alloc ?_ (by first | omega | (simp; done) | (simp; omega)) _ | with_reducible refine Below.drew ?_ | with_reducible refine Ext.on _ ?_ (by first | omega | (simp; done) | (simp; omega))
    · have b2 : (e.op == 2) = false := by simp [h]
      have b3 : (e.op == 3) = true := by simp [h]
      clear h
      go_enter Tryd.func60, Tryd.ntmps60
      go_wp2_with (first | (go_at_call 29; ((with_reducible refine (CL.out _).mono ?_); rintro r _ ⟨rfl, y, rfl⟩; have ys := y.size; simp at ys)) | (go_at_call 93; ((with_reducible refine (CV.out _).mono ?_); rintro r _ ⟨rfl, y2, rfl⟩)))
      go_ret
      refine ⟨ret_bool rfl, Cls.of ?_⟩
      repeat first | with_reducible exact Below.refl _ _ | with_reducible refine Below.setCell ?_ (by first | omega | (simp; done) | (simp; omega)) _ | with_reducible refine Below.alloc ?_ (by first | omega | (simp; done) | (simp; omega)) _ | with_reducible refine Below.drew ?_ | with_reducible refine Ext.on _ ?_ (by first | omega | (simp; done) | (simp; omega))
    · have b2 : (e.op == 2) = false := by simp [h]
      have b3 : (e.op == 3) = false := by simp [h]
      have b4 : (e.op == 4) = true := by simp [h]
      clear h
      go_enter Tryd.func60, Tryd.ntmps60
      go_wp2_with (first | (go_at_call 29; ((with_reducible refine (CL.out _).mono ?_); rintro r _ ⟨rfl, y, rfl⟩; have ys := y.size; simp at ys)) | (go_at_call 93; ((with_reducible refine (CV.out _).mono ?_); rintro r _ ⟨rfl, y2, rfl⟩)))
      go_ret
      refine ⟨ret_bool rfl, Cls.of ?_⟩
      repeat first | with_reducible exact Below.refl _ _ | with_reducible refine Below.setCell ?_ (by first | omega | (simp; done) | (simp; omega)) _ | with_reducible refine Below.alloc ?_ (by first | omega | (simp; done) | (simp; omega)) _ | with_reducible refine Below.drew ?_ | with_reducible refine Ext.on _ ?_ (by first | omega | (simp; done) | (simp; omega))
end Go.Proofs.YtonlmhehddbhoaaDoor
