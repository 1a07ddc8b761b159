/-
  The first error of a table by itself, and of a schema: the program's Valid. What the program's Type asks of one operation, of any expression: its fields, the type of a column, and the type of an operation over its Kids' types.
-/
import Derived.Test.YtpddkljedhghkaaDoorJ22
import Derived.Test.YtpddkljedhghkaaDoorJ23
import Derived.Test.YtpddkljedhghkaaDoorJ24
import Derived.Test.YtpddkljedhghkaaDoorJ21
set_option linter.unusedVariables false
namespace Go.Proofs.YtpddkljedhghkaaDoor
open Go Go.RowKit Go.Deep
theorem ChkT.later {w w' : World} {t : Tb} {g : Nat → Int × Int} (h : ChkT w t g) (hb : Below w.heap.size w w') : ChkT w' t g := fun i hi W s a len cap hW h1 h2 h3 => h i hi W s a len cap (hb.trans (hW.mono hb.size)) h1 h2 h3
def tableE (t : Tb) (g : Nat → Int × Int) : Int :=
  if 8 < t.cs.len ∨ 3 < t.us.len ∨ 3 < t.fs.len ∨ 4 < t.ks.len then 8 else if t.cs.len = 0 then 9 else if colE t = 0 then (if keyE t = 0 then chkE g t.ks.len else keyE t) else colE t
theorem tableE_is (t : Tb) (g : Nat → Int × Int) : ((8 < t.cs.len ∨ 3 < t.us.len ∨ 3 < t.fs.len ∨ 4 < t.ks.len) → tableE t g = 8) ∧ (¬ (8 < t.cs.len ∨ 3 < t.us.len ∨ 3 < t.fs.len ∨ 4 < t.ks.len) → (t.cs.len = 0 → tableE t g = 9) ∧ (t.cs.len ≠ 0 → (colE t ≠ 0 → tableE t g = colE t) ∧ (colE t = 0 → (keyE t ≠ 0 → tableE t g = keyE t) ∧ (keyE t = 0 → tableE t g = chkE g t.ks.len)))) := by
  unfold tableE
  refine ⟨fun h => if_pos h, fun h => ?_⟩
  rw [if_neg h]
  refine ⟨fun h => if_pos h, fun h => ?_⟩
  rw [if_neg h]
  refine ⟨fun h => if_neg h, fun h => ?_⟩
  rw [if_pos h]
  exact ⟨fun h => if_neg h, fun h => if_pos h⟩
set_option maxHeartbeats 8000000 in
set_option maxRecDepth 20000 in
theorem tableError_calls (t : Tb) (g : Nat → Int × Int) (w : World) (h : TbAt w t) (hg : ChkT w t g) :
    Calls Tryd.prog 55 #[.agg #[.string t.name, .slice t.cs.a t.cs.len t.cs.cap, .slice t.ps.a t.ps.len t.ps.cap, .slice t.us.a t.us.len t.us.cap, .slice t.fs.a t.fs.len t.fs.cap, .slice t.ks.a t.ks.len t.ks.cap]] w fun r w' => r = .returned (.int .i64 (tableE t g)) ∧ Cls w w' := by
  have C1 : Hid (∀ W, Below w.heap.size w W → Calls Tryd.prog 98 #[.agg #[.string t.name, .slice t.cs.a t.cs.len t.cs.cap, .slice t.ps.a t.ps.len t.ps.cap, .slice t.us.a t.us.len t.us.cap, .slice t.fs.a t.fs.len t.fs.cap, .slice t.ks.a t.ks.len t.ks.cap]] W fun r w' => r = .returned (.int .i64 (colE t)) ∧ Cls W w') := Lib.hid fun W hW => columnError_calls t W (h.later hW)
  have C2 : Hid (∀ W, Below w.heap.size w W → Calls Tryd.prog 99 #[.agg #[.string t.name, .slice t.cs.a t.cs.len t.cs.cap, .slice t.ps.a t.ps.len t.ps.cap, .slice t.us.a t.us.len t.us.cap, .slice t.fs.a t.fs.len t.fs.cap, .slice t.ks.a t.ks.len t.ks.cap]] W fun r w' => r = .returned (.int .i64 (keyE t)) ∧ Cls W w') := Lib.hid fun W hW => keyError_calls t W (h.later hW)
  have C3 : Hid (t.cs.len ≤ 8 → ∀ W, Below w.heap.size w W → Calls Tryd.prog 100 #[.agg #[.string t.name, .slice t.cs.a t.cs.len t.cs.cap, .slice t.ps.a t.ps.len t.ps.cap, .slice t.us.a t.us.len t.us.cap, .slice t.fs.a t.fs.len t.fs.cap, .slice t.ks.a t.ks.len t.ks.cap]] W fun r w' => r = .returned (.int .i64 (chkE g t.ks.len)) ∧ Cls W w') := Lib.hid fun hc W hW => checkError_calls t g W (h.later hW) (hg.later hW) (by omega)
  have HI := Lib.hid (tableE_is t g)
  clear h hg
  generalize tableE t g = te at HI ⊢
  generalize chkE g t.ks.len = he at HI C3
  generalize colE t = ce at HI C1
  generalize keyE t = ke at HI C2
  obtain ⟨tn, ⟨ca, cn, cc⟩, tf, tps, tprim, ⟨ua, un, uc⟩, tuq, tuqn, ⟨fa, fn, fc⟩, tfk, tfkn, tfkt, ⟨ka, kn, kc⟩, tch⟩ := t
  simp only at C1 C2 C3 HI ⊢
  go_enter Tryd.func55, Tryd.ntmps55
  by_cases h1 : 8 < cn
  · have d1 : decide ((8 : Int) < (cn : Nat)) = true := by simp; omega
    have HT := Lib.hid (HI.out.1 (.inl h1))
    clear HI
    go_wp2_with fail
    go_ret
    refine ⟨ret_int (by rw [HT.out]), Cls.of ?_⟩
    repeat first | with_reducible exact Below.refl _ _ | with_reducible refine Below.setCell ?_ (by first | omega | (simp; done) | (simp; omega)) _ | with_reducible refine Below.alloc ?_ (by first | omega | (simp; done) | (simp; omega)) _ | with_reducible refine Below.drew ?_ | with_reducible refine Ext.on _ ?_ (by first | omega | (simp; done) | (simp; omega))
  have d1 : decide ((8 : Int) < (cn : Nat)) = false := by simp; omega
  by_cases h2 : 3 < un
  · have d2 : decide ((3 : Int) < (un : Nat)) = true := by simp; omega
    have HT := Lib.hid (HI.out.1 (.inr (.inl h2)))
    clear HI
    go_wp2_with fail
    go_ret
    refine ⟨ret_int (by rw [HT.out]), Cls.of ?_⟩
    repeat first | with_reducible exact Below.refl _ _ | with_reducible refine Below.setCell ?_ (by first | omega | (simp; done) | (simp; omega)) _ | with_reducible refine Below.alloc ?_ (by first | omega | (simp; done) | (simp; omega)) _ | with_reducible refine Below.drew ?_ | with_reducible refine Ext.on _ ?_ (by first | omega | (simp; done) | (simp; omega))
  have d2 : decide ((3 : Int) < (un : Nat)) = false := by simp; omega
  by_cases h3 : 3 < fn
  · have d3 : decide ((3 : Int) < (fn : Nat)) = true := by simp; omega
    have HT := Lib.hid (HI.out.1 (.inr (.inr (.inl h3))))
    clear HI
    go_wp2_with fail
    go_ret
    refine ⟨ret_int (by rw [HT.out]), Cls.of ?_⟩
    repeat first | with_reducible exact Below.refl _ _ | with_reducible refine Below.setCell ?_ (by first | omega | (simp; done) | (simp; omega)) _ | with_reducible refine Below.alloc ?_ (by first | omega | (simp; done) | (simp; omega)) _ | with_reducible refine Below.drew ?_ | with_reducible refine Ext.on _ ?_ (by first | omega | (simp; done) | (simp; omega))
  have d3 : decide ((3 : Int) < (fn : Nat)) = false := by simp; omega
  by_cases h4 : 4 < kn
  · have d4 : decide ((4 : Int) < (kn : Nat)) = true := by simp; omega
    have HT := Lib.hid (HI.out.1 (.inr (.inr (.inr h4))))
    clear HI
    go_wp2_with fail
    go_ret
    refine ⟨ret_int (by rw [HT.out]), Cls.of ?_⟩
    repeat first | with_reducible exact Below.refl _ _ | with_reducible refine Below.setCell ?_ (by first | omega | (simp; done) | (simp; omega)) _ | with_reducible refine Below.alloc ?_ (by first | omega | (simp; done) | (simp; omega)) _ | with_reducible refine Below.drew ?_ | with_reducible refine Ext.on _ ?_ (by first | omega | (simp; done) | (simp; omega))
  have d4 : decide ((4 : Int) < (kn : Nat)) = false := by simp; omega
  have HJ := Lib.hid (HI.out.2 (by omega))
  have CH := Lib.hid (C3.out (by omega))
  clear HI C3
  by_cases h5 : cn = 0
  · have d5 : ((cn : Int) == 0) = true := by simp; omega
    have HT := Lib.hid (HJ.out.1 h5)
    clear HJ h5
    go_wp2_with fail
    go_ret
    refine ⟨ret_int (by rw [HT.out]), Cls.of ?_⟩
    repeat first | with_reducible exact Below.refl _ _ | with_reducible refine Below.setCell ?_ (by first | omega | (simp; done) | (simp; omega)) _ | with_reducible refine Below.alloc ?_ (by first | omega | (simp; done) | (simp; omega)) _ | with_reducible refine Below.drew ?_ | with_reducible refine Ext.on _ ?_ (by first | omega | (simp; done) | (simp; omega))
  have d5 : ((cn : Int) == 0) = false := by simp; omega
  have HK := Lib.hid (HJ.out.2 h5)
  clear HJ
  by_cases h6 : ce = 0
  · have HL := Lib.hid (HK.out.2 h6)
    clear HK
    subst h6
    by_cases h7 : ke = 0
    · have HT := Lib.hid (HL.out.2 h7)
      clear HL
      subst h7
      go_wp2_with (first | (go_at_call 98; ((with_reducible refine (C1.out _ (by repeat first | with_reducible exact Below.refl _ _ | with_reducible refine Below.setCell ?_ (by first | omega | (simp; done) | (simp; omega)) _ | with_reducible refine Below.alloc ?_ (by first | omega | (simp; done) | (simp; omega)) _ | with_reducible refine Below.drew ?_ | with_reducible refine Ext.on _ ?_ (by first | omega | (simp; done) | (simp; omega)))).mono ?_); rintro r _ ⟨rfl, y, rfl⟩; obtain ⟨l1, l2, l3, l4, l5⟩ := y.lts (b := w.heap.size) (by simp))) | (go_at_call 99; ((with_reducible refine (C2.out _ (by repeat first | with_reducible exact Below.refl _ _ | with_reducible refine Below.setCell ?_ (by first | omega | (simp; done) | (simp; omega)) _ | with_reducible refine Below.alloc ?_ (by first | omega | (simp; done) | (simp; omega)) _ | with_reducible refine Below.drew ?_ | with_reducible refine Ext.on _ ?_ (by first | omega | (simp; done) | (simp; omega)))).mono ?_); rintro r _ ⟨rfl, z, rfl⟩; obtain ⟨l6, l7, l8, l9, l10⟩ := z.lts (b := w.heap.size) (by omega))) | (go_at_call 100; ((with_reducible refine (CH.out _ (by repeat first | with_reducible exact Below.refl _ _ | with_reducible refine Below.setCell ?_ (by first | omega | (simp; done) | (simp; omega)) _ | with_reducible refine Below.alloc ?_ (by first | omega | (simp; done) | (simp; omega)) _ | with_reducible refine Below.drew ?_ | with_reducible refine Ext.on _ ?_ (by first | omega | (simp; done) | (simp; omega)))).mono ?_); rintro r _ ⟨rfl, v, rfl⟩)))
      go_ret
      refine ⟨ret_int (by rw [HT.out]), Cls.of ?_⟩
      repeat first | with_reducible exact Below.refl _ _ | with_reducible refine Below.setCell ?_ (by first | omega | (simp; done) | (simp; omega)) _ | with_reducible refine Below.alloc ?_ (by first | omega | (simp; done) | (simp; omega)) _ | with_reducible refine Below.drew ?_ | with_reducible refine Ext.on _ ?_ (by first | omega | (simp; done) | (simp; omega))
    · have HT := Lib.hid (HL.out.1 h7)
      have d7 : (ke == 0) = false := by simp [h7]
      have d7' : (ke != 0) = true := by simp [h7]
      clear HL h7
      go_wp2_with (first | (go_at_call 98; ((with_reducible refine (C1.out _ (by repeat first | with_reducible exact Below.refl _ _ | with_reducible refine Below.setCell ?_ (by first | omega | (simp; done) | (simp; omega)) _ | with_reducible refine Below.alloc ?_ (by first | omega | (simp; done) | (simp; omega)) _ | with_reducible refine Below.drew ?_ | with_reducible refine Ext.on _ ?_ (by first | omega | (simp; done) | (simp; omega)))).mono ?_); rintro r _ ⟨rfl, y, rfl⟩; obtain ⟨l1, l2, l3, l4, l5⟩ := y.lts (b := w.heap.size) (by simp))) | (go_at_call 99; ((with_reducible refine (C2.out _ (by repeat first | with_reducible exact Below.refl _ _ | with_reducible refine Below.setCell ?_ (by first | omega | (simp; done) | (simp; omega)) _ | with_reducible refine Below.alloc ?_ (by first | omega | (simp; done) | (simp; omega)) _ | with_reducible refine Below.drew ?_ | with_reducible refine Ext.on _ ?_ (by first | omega | (simp; done) | (simp; omega)))).mono ?_); rintro r _ ⟨rfl, z, rfl⟩)))
      go_ret
      refine ⟨ret_int (by rw [HT.out]), Cls.of ?_⟩
      repeat first | with_reducible exact Below.refl _ _ | with_reducible refine Below.setCell ?_ (by first | omega | (simp; done) | (simp; omega)) _ | with_reducible refine Below.alloc ?_ (by first | omega | (simp; done) | (simp; omega)) _ | with_reducible refine Below.drew ?_ | with_reducible refine Ext.on _ ?_ (by first | omega | (simp; done) | (simp; omega))
  · have HT := Lib.hid (HK.out.1 h6)
    have d6 : (ce == 0) = false := by simp [h6]
    have d6' : (ce != 0) = true := by simp [h6]
    clear HK h6
    go_wp2_with (go_at_call 98; ((with_reducible refine (C1.out _ (by repeat first | with_reducible exact Below.refl _ _ | with_reducible refine Below.setCell ?_ (by first | omega | (simp; done) | (simp; omega)) _ | with_reducible refine Below.alloc ?_ (by first | omega | (simp; done) | (simp; omega)) _ | with_reducible refine Below.drew ?_ | with_reducible refine Ext.on _ ?_ (by first | omega | (simp; done) | (simp; omega)))).mono ?_); rintro r _ ⟨rfl, y, rfl⟩))
    go_ret
    refine ⟨ret_int (by rw [HT.out]), Cls.of ?_⟩
    repeat first | with_reducible exact Below.refl _ _ | with_reducible refine Below.setCell ?_ (by first | omega | (simp; done) | (simp; omega)) _ | with_reducible refine Below.alloc ?_ (by first | omega | (simp; done) | (simp; omega)) _ | with_reducible refine Below.drew ?_ | with_reducible refine Ext.on _ ?_ (by first | omega | (simp; done) | (simp; omega))
/-- The error of table i. -/
def vtE (sl : Sl) (tb : Nat → Tb) (g : Nat → Nat → Int × Int) (i : Nat) : Int :=
  if nameE (tb i).name (decide (at0 (idx (nameP tb (tb i).name) 0 sl.len) < i)) = 0 then tableE (tb i) (g i) else nameE (tb i).name (decide (at0 (idx (nameP tb (tb i).name) 0 sl.len) < i))
theorem vtE_is (sl : Sl) (tb : Nat → Tb) (g : Nat → Nat → Int × Int) (i : Nat) : (nameE (tb i).name (decide (at0 (idx (nameP tb (tb i).name) 0 sl.len) < i)) = 0 → vtE sl tb g i = tableE (tb i) (g i)) ∧ (nameE (tb i).name (decide (at0 (idx (nameP tb (tb i).name) 0 sl.len) < i)) ≠ 0 → vtE sl tb g i = nameE (tb i).name (decide (at0 (idx (nameP tb (tb i).name) 0 sl.len) < i))) := by
  unfold vtE
  exact ⟨fun h => if_pos h, fun h => if_neg h⟩
/-- The first error of a schema. -/
def validE (sl : Sl) (tb : Nat → Tb) (g : Nat → Nat → Int × Int) : Int :=
  if 6 < sl.len then 8 else if fstE (vtE sl tb g) 0 sl.len = 0 then (if tgtE sl tb = 0 then (if (ordL sl tb sl.len).length < sl.len then 7 else 0) else tgtE sl tb) else fstE (vtE sl tb g) 0 sl.len
theorem validE_is (sl : Sl) (tb : Nat → Tb) (g : Nat → Nat → Int × Int) : (6 < sl.len → validE sl tb g = 8) ∧ (¬ 6 < sl.len → (fstE (vtE sl tb g) 0 sl.len ≠ 0 → validE sl tb g = fstE (vtE sl tb g) 0 sl.len) ∧ (fstE (vtE sl tb g) 0 sl.len = 0 → (tgtE sl tb ≠ 0 → validE sl tb g = tgtE sl tb) ∧ (tgtE sl tb = 0 → ((ordL sl tb sl.len).length < sl.len → validE sl tb g = 7) ∧ ((ordL sl tb sl.len).length = sl.len → validE sl tb g = 0)))) := by
  unfold validE
  refine ⟨fun h => if_pos h, fun h => ?_⟩
  rw [if_neg h]
  refine ⟨fun h => if_neg h, fun h => ?_⟩
  rw [if_pos h]
  refine ⟨fun h => if_neg h, fun h => ?_⟩
  rw [if_pos h]
  exact ⟨fun h => if_pos h, fun h => if_neg (by omega)⟩
theorem vtE_key {sl : Sl} {tb : Nat → Tb} {g : Nat → Nat → Int × Int} (h : fstE (vtE sl tb g) 0 sl.len = 0) {i : Nat} (hi : i < sl.len) : keyE (tb i) = 0 ∧ (tb i).fs.len ≤ 3 := by
  have h1 := fstE_of _ _ h i (Nat.zero_le _) (by omega)
  have h2 := vtE_is sl tb g i
  by_cases hn : nameE (tb i).name (decide (at0 (idx (nameP tb (tb i).name) 0 sl.len) < i)) = 0
  · rw [h2.1 hn] at h1
    have h3 := tableE_is (tb i) (g i)
    by_cases h4 : 8 < (tb i).cs.len ∨ 3 < (tb i).us.len ∨ 3 < (tb i).fs.len ∨ 4 < (tb i).ks.len
    · rw [h3.1 h4] at h1
      cases h1
    · obtain ⟨h5, h6⟩ := h3.2 h4
      by_cases h7 : (tb i).cs.len = 0
      · rw [h5 h7] at h1
        cases h1
      · obtain ⟨h8, h9⟩ := h6 h7
        by_cases h10 : colE (tb i) = 0
        · obtain ⟨h11, h12⟩ := h9 h10
          by_cases h13 : keyE (tb i) = 0
          · exact ⟨h13, by omega⟩
          · rw [h11 h13] at h1
            exact absurd h1 h13
        · rw [h8 h10] at h1
          exact absurd h1 h10
  · rw [h2.2 hn] at h1
    exact absurd h1 hn
end Go.Proofs.YtpddkljedhghkaaDoor
set_option linter.unusedVariables false
namespace Go.Proofs.YtpddkljedhghkaaDoor
open Go Go.RowKit Go.Deep
def isT (t : Int) : Bool := t == 1 || t == 2 || t == 3
set_option maxHeartbeats 1000000 in
theorem isTypeG_calls (t : Int) (w : World) :
    Calls Tryd.prog 117 #[.int .i64 t] w fun r w' => r = .returned (.bool (isT t)) ∧ Cls w w' := by
  by_cases h1 : t = 1
  · subst h1
    go_enter Tryd.func117, Tryd.ntmps117
    go_wp2_with fail
    go_ret
    refine ⟨ret_bool rfl, Cls.of ?_⟩
    repeat first | with_reducible exact Below.refl _ _ | with_reducible refine Below.setCell ?_ (by first | omega | (simp; done) | (simp; omega)) _ | with_reducible refine Below.alloc ?_ (by first | omega | (simp; done) | (simp; omega)) _ | with_reducible refine Below.drew ?_ | with_reducible refine Ext.on _ ?_ (by first | omega | (simp; done) | (simp; omega))
  have b1 : (t == 1) = false := by simp [h1]
  by_cases h2 : t = 2
  · subst h2
    go_enter Tryd.func117, Tryd.ntmps117
    go_wp2_with fail
    go_ret
    refine ⟨ret_bool rfl, Cls.of ?_⟩
    repeat first | with_reducible exact Below.refl _ _ | with_reducible refine Below.setCell ?_ (by first | omega | (simp; done) | (simp; omega)) _ | with_reducible refine Below.alloc ?_ (by first | omega | (simp; done) | (simp; omega)) _ | with_reducible refine Below.drew ?_ | with_reducible refine Ext.on _ ?_ (by first | omega | (simp; done) | (simp; omega))
  have b2 : (t == 2) = false := by simp [h2]
  by_cases h3 : t = 3
  · subst h3
    go_enter Tryd.func117, Tryd.ntmps117
    go_wp2_with fail
    go_ret
    refine ⟨ret_bool rfl, Cls.of ?_⟩
    repeat first | with_reducible exact Below.refl _ _ | with_reducible refine Below.setCell ?_ (by first | omega | (simp; done) | (simp; omega)) _ | with_reducible refine Below.alloc ?_ (by first | omega | (simp; done) | (simp; omega)) _ | with_reducible refine Below.drew ?_ | with_reducible refine Ext.on _ ?_ (by first | omega | (simp; done) | (simp; omega))
  have b3 : (t == 3) = false := by simp [h3]
  go_enter Tryd.func117, Tryd.ntmps117
  go_wp2_with fail
  go_ret
  refine ⟨ret_bool (by unfold isT; rw [b1, b2, b3]; rfl), Cls.of ?_⟩
  repeat first | with_reducible exact Below.refl _ _ | with_reducible refine Below.setCell ?_ (by first | omega | (simp; done) | (simp; omega)) _ | with_reducible refine Below.alloc ?_ (by first | omega | (simp; done) | (simp; omega)) _ | with_reducible refine Below.drew ?_ | with_reducible refine Ext.on _ ?_ (by first | omega | (simp; done) | (simp; omega))
/-- The type of a column, or the error. -/
def colT (l : List Int) (c : Int) : Int × Int := if c < 0 then (0, 3) else if (l.length : Int) ≤ c then (0, 3) else if isT (l.getD c.toNat 0) = true then (l.getD c.toNat 0, 0) else (0, 4)
set_option maxHeartbeats 2000000 in
theorem columnTypeG_calls (l : List Int) (c : Int) (a : Option Addr) (len cap : Nat) (w : World) (h : NumIn w a len cap l) :
    Calls Tryd.prog 77 #[.slice a len cap, .int .i64 c] w fun r w' => r = .returned (.tuple #[.int .i64 (colT l c).1, .int .i64 (colT l c).2]) ∧ Cls w w' := by
  obtain ⟨hl, hle, hmax, hh⟩ := h
  unfold maxLen at hmax
  by_cases h1 : c < 0
  · have e : colT l c = (0, 3) := if_pos h1
    rw [e]
    have d1 : decide (c < 0) = true := by simp; omega
    go_enter Tryd.func77, Tryd.ntmps77
    go_wp2_with fail
    go_ret2
    refine ⟨rfl, Cls.of ?_⟩
    repeat first | with_reducible exact Below.refl _ _ | with_reducible refine Below.setCell ?_ (by first | omega | (simp; done) | (simp; omega)) _ | with_reducible refine Below.alloc ?_ (by first | omega | (simp; done) | (simp; omega)) _ | with_reducible refine Below.drew ?_ | with_reducible refine Ext.on _ ?_ (by first | omega | (simp; done) | (simp; omega))
  have d1 : decide (c < 0) = false := by simp; omega
  by_cases h2 : (len : Int) ≤ c
  · have e : colT l c = (0, 3) := by unfold colT; rw [if_neg h1, if_pos (by omega)]
    rw [e]
    have d2 : decide ((len : Int) ≤ c) = true := by simp; omega
    go_enter Tryd.func77, Tryd.ntmps77
    go_wp2_with fail
    go_ret2
    refine ⟨rfl, Cls.of ?_⟩
    repeat first | with_reducible exact Below.refl _ _ | with_reducible refine Below.setCell ?_ (by first | omega | (simp; done) | (simp; omega)) _ | with_reducible refine Below.alloc ?_ (by first | omega | (simp; done) | (simp; omega)) _ | with_reducible refine Below.drew ?_ | with_reducible refine Ext.on _ ?_ (by first | omega | (simp; done) | (simp; omega))
  have d2 : decide ((len : Int) ≤ c) = false := by simp; omega
  obtain ⟨n, rfl⟩ : ∃ n : Nat, c = n := ⟨c.toNat, by omega⟩
  obtain ⟨b, off, rfl, hb, hc⟩ := hh.resolve_left (by omega)
  have q := hc n (by omega)
  have e : colT l (n : Nat) = if isT (l.getD n 0) = true then (l.getD n 0, 0) else (0, 4) := by unfold colT; rw [if_neg h1, if_neg (by omega), Int.toNat_natCast]
  rw [e]
  have C1 := Lib.hid (fun W => isTypeG_calls (l.getD n 0) W)
  clear hc hh e
  generalize l.getD n 0 = t at q C1 ⊢
  generalize isT t = bt at C1 ⊢
  cases bt
  all_goals
    go_enter Tryd.func77, Tryd.ntmps77
    go_wp2_with (go_at_call 117; ((with_reducible refine (C1.out _).mono ?_); rintro r _ ⟨rfl, y, rfl⟩))
    go_ret2
    refine ⟨rfl, Cls.of ?_⟩
    repeat first | with_reducible exact Below.refl _ _ | with_reducible refine Below.setCell ?_ (by first | omega | (simp; done) | (simp; omega)) _ | with_reducible refine Below.alloc ?_ (by first | omega | (simp; done) | (simp; omega)) _ | with_reducible refine Below.drew ?_ | with_reducible refine Ext.on _ ?_ (by first | omega | (simp; done) | (simp; omega))
def onlyB (ty num : Int) (text : ByteArray) (col f : Int) : Bool := (ty == 0 || f == 0) && (num == 0 || f == 1) && (text.toList == [] || f == 2) && (col == 0 || f == 3)
set_option maxHeartbeats 8000000 in
set_option maxRecDepth 20000 in
theorem hasOnlyG_calls (op ty num : Int) (text : ByteArray) (col : Int) (a : Option Addr) (len cap : Nat) (f : Int) (w : World) :
    Calls Tryd.prog 75 #[.agg #[.int .i64 op, .int .i64 ty, .int .i64 num, .string text, .int .i64 col, .slice a len cap], .int .i64 f] w fun r w' => r = .returned (.bool (onlyB ty num text col f)) ∧ Cls w w' := by
  go_enter Tryd.func75, Tryd.ntmps75
  go_wp2_with fail
  all_goals
    go_ret
    refine ⟨ret_bool (by simp [onlyB, *]), Cls.of ?_⟩
    repeat first | with_reducible exact Below.refl _ _ | with_reducible refine Below.setCell ?_ (by first | omega | (simp; done) | (simp; omega)) _ | with_reducible refine Below.alloc ?_ (by first | omega | (simp; done) | (simp; omega)) _ | with_reducible refine Below.drew ?_ | with_reducible refine Ext.on _ ?_ (by first | omega | (simp; done) | (simp; omega))
def permB (op ty num : Int) (text : ByteArray) : Bool := if op = 1 then isT ty else if op = 2 ∨ op = 3 ∨ op = 4 then vB (litV op num text).k (litV op num text).n (litV op num text).s else true
set_option maxHeartbeats 2000000 in
theorem permittedG_calls (e : Ex) (a : Option Addr) (len cap : Nat) (w : World) (hs : e.text.size ≤ maxLen) :
    Calls Tryd.prog 76 #[.agg #[.int .i64 e.op, .int .i64 e.ty, .int .i64 e.num, .string e.text, .int .i64 e.col, .slice a len cap]] w fun r w' => r = .returned (.bool (permB e.op e.ty e.num e.text)) ∧ Cls w w' := by
  by_cases h1 : e.op = 1
  · have b1 : (e.op == 1) = true := by simp [h1]
    have hp : permB e.op e.ty e.num e.text = isT e.ty := if_pos h1
    rw [hp]
    have C1 := Lib.hid (fun W => isTypeG_calls e.ty W)
    generalize isT e.ty = bt at C1 ⊢
    clear h1 hp
    go_enter Tryd.func76, Tryd.ntmps76
    go_wp2_with (go_at_call 117; ((with_reducible refine (C1.out _).mono ?_); rintro r _ ⟨rfl, y, rfl⟩))
    go_ret
    refine ⟨ret_bool rfl, Cls.of ?_⟩
    repeat first | with_reducible exact Below.refl _ _ | with_reducible refine Below.setCell ?_ (by first | omega | (simp; done) | (simp; omega)) _ | with_reducible refine Below.alloc ?_ (by first | omega | (simp; done) | (simp; omega)) _ | with_reducible refine Below.drew ?_ | with_reducible refine Ext.on _ ?_ (by first | omega | (simp; done) | (simp; omega))
  have b1 : (e.op == 1) = false := by simp [h1]
  by_cases h : e.op = 2 ∨ e.op = 3 ∨ e.op = 4
  · have hp : permB e.op e.ty e.num e.text = vB (litV e.op e.num e.text).k (litV e.op e.num e.text).n (litV e.op e.num e.text).s := by unfold permB; rw [if_neg h1, if_pos h]
    rw [hp]
    have hsz : (litV e.op e.num e.text).s.size ≤ maxLen := by
      unfold litV
      split
      · exact Nat.zero_le _
      · split
        · exact Nat.zero_le _
        · split
          · exact hs
          · exact Nat.zero_le _
    have CL : Hid (∀ W, Calls Tryd.prog 36 #[.agg #[.int .i64 e.op, .int .i64 e.ty, .int .i64 e.num, .string e.text, .int .i64 e.col, .slice a len cap]] W fun r w' => r = .returned (.agg #[.int .i64 (litV e.op e.num e.text).k, .int .i64 (litV e.op e.num e.text).n, .string (litV e.op e.num e.text).s]) ∧ Cls W w') := Lib.hid (fun W => literal_calls e a len cap W (by omega))
    have CV : Hid (∀ W, Calls Tryd.prog 113 #[.agg #[.int .i64 (litV e.op e.num e.text).k, .int .i64 (litV e.op e.num e.text).n, .string (litV e.op e.num e.text).s]] W fun r w' => r = .returned (.bool (vB (litV e.op e.num e.text).k (litV e.op e.num e.text).n (litV e.op e.num e.text).s)) ∧ Cls W w') := Lib.hid (fun W => Valid_calls _ _ _ W hsz)
    clear hsz hs hp h1
    generalize vB (litV e.op e.num e.text).k (litV e.op e.num e.text).n (litV e.op e.num e.text).s = bv at CV ⊢
    generalize litV e.op e.num e.text = v at CL CV
    rcases h with h | h | h
    · have b2 : (e.op == 2) = true := by simp [h]
      clear h
      go_enter Tryd.func76, Tryd.ntmps76
      go_wp2_with (first | (go_at_call 36; ((with_reducible refine (CL.out _).mono ?_); rintro r _ ⟨rfl, y, rfl⟩; have ys := y.size; simp at ys)) | (go_at_call 113; ((with_reducible refine (CV.out _).mono ?_); rintro r _ ⟨rfl, z, rfl⟩)))
      go_ret
      refine ⟨ret_bool rfl, Cls.of ?_⟩
      repeat first | with_reducible exact Below.refl _ _ | with_reducible refine Below.setCell ?_ (by first | omega | (simp; done) | (simp; omega)) _ | with_reducible refine Below.alloc ?_ (by first | omega | (simp; done) | (simp; omega)) _ | with_reducible refine Below.drew ?_ | with_reducible refine Ext.on _ ?_ (by first | omega | (simp; done) | (simp; omega))
    · have b2 : (e.op == 2) = false := by simp [h]
      have b3 : (e.op == 3) = true := by simp [h]
      clear h
      go_enter Tryd.func76, Tryd.ntmps76
      go_wp2_with (first | (go_at_call 36; ((with_reducible refine (CL.out _).mono ?_); rintro r _ ⟨rfl, y, rfl⟩; have ys := y.size; simp at ys)) | (go_at_call 113; ((with_reducible refine (CV.out _).mono ?_); rintro r _ ⟨rfl, z, rfl⟩)))
      go_ret
      refine ⟨ret_bool rfl, Cls.of ?_⟩
      repeat first | with_reducible exact Below.refl _ _ | with_reducible refine Below.setCell ?_ (by first | omega | (simp; done) | (simp; omega)) _ | with_reducible refine Below.alloc ?_ (by first | omega | (simp; done) | (simp; omega)) _ | with_reducible refine Below.drew ?_ | with_reducible refine Ext.on _ ?_ (by first | omega | (simp; done) | (simp; omega))
    · have b2 : (e.op == 2) = false := by simp [h]
      have b3 : (e.op == 3) = false := by simp [h]
      have b4 : (e.op == 4) = true := by simp [h]
      clear h
      go_enter Tryd.func76, Tryd.ntmps76
      go_wp2_with (first | (go_at_call 36; ((with_reducible refine (CL.out _).mono ?_); rintro r _ ⟨rfl, y, rfl⟩; have ys := y.size; simp at ys)) | (go_at_call 113; ((with_reducible refine (CV.out _).mono ?_); rintro r _ ⟨rfl, z, rfl⟩)))
      go_ret
      refine ⟨ret_bool rfl, Cls.of ?_⟩
      repeat first | with_reducible exact Below.refl _ _ | with_reducible refine Below.setCell ?_ (by first | omega | (simp; done) | (simp; omega)) _ | with_reducible refine Below.alloc ?_ (by first | omega | (simp; done) | (simp; omega)) _ | with_reducible refine Below.drew ?_ | with_reducible refine Ext.on _ ?_ (by first | omega | (simp; done) | (simp; omega))
  · have hp : permB e.op e.ty e.num e.text = true := by unfold permB; rw [if_neg h1, if_neg h]
    rw [hp]
    have b2 : (e.op == 2) = false := by simp; omega
    have b3 : (e.op == 3) = false := by simp; omega
    have b4 : (e.op == 4) = false := by simp; omega
    clear hp h1 h
    go_enter Tryd.func76, Tryd.ntmps76
    go_wp2_with fail
    go_ret
    refine ⟨ret_bool rfl, Cls.of ?_⟩
    repeat first | with_reducible exact Below.refl _ _ | with_reducible refine Below.setCell ?_ (by first | omega | (simp; done) | (simp; omega)) _ | with_reducible refine Below.alloc ?_ (by first | omega | (simp; done) | (simp; omega)) _ | with_reducible refine Below.drew ?_ | with_reducible refine Ext.on _ ?_ (by first | omega | (simp; done) | (simp; omega))
/-- The one type of the Kids that are alike, as far as there is one, behind those from the j-th on; none if they don't fit. -/
def resL (o : ORow) : Nat → Int → List Int → Option Int
  | _, one, [] => some one
  | j, one, t :: r =>
    if t = (if wantAt o j = -1 then (if wantAt o j = -1 ∧ one = 0 then t else one) else wantAt o j) then resL o (j + 1) (if wantAt o j = -1 ∧ one = 0 then t else one) r else none
def resP (o : ORow) (ks : List Int) : Int × Bool := match resL o 0 0 ks with
  | none => (0, false)
  | some one => (if o.gives = -1 then one else o.gives, true)
theorem resP_none {o : ORow} {ks : List Int} (h : resL o 0 0 ks = none) : resP o ks = (0, false) := by unfold resP; rw [h]
theorem resP_some {o : ORow} {ks : List Int} {one : Int} (h : resL o 0 0 ks = some one) : resP o ks = (if o.gives = -1 then one else o.gives, true) := by unfold resP; rw [h]
theorem dropI {l : List Int} {j : Nat} (h : j < l.length) : l.drop j = l.getD j 0 :: l.drop (j + 1) := by
  rw [List.drop_eq_getElem_cons h]; simp [List.getD, h]
theorem resL_is (o : ORow) (j : Nat) (one t : Int) (r : List Int) : (wantAt o j = -1 → one = 0 → resL o j one (t :: r) = resL o (j + 1) t r) ∧ (wantAt o j = -1 → one ≠ 0 → t = one → resL o j one (t :: r) = resL o (j + 1) one r) ∧ (wantAt o j = -1 → one ≠ 0 → t ≠ one → resL o j one (t :: r) = none) ∧
    (wantAt o j ≠ -1 → t = wantAt o j → resL o j one (t :: r) = resL o (j + 1) one r) ∧ (wantAt o j ≠ -1 → t ≠ wantAt o j → resL o j one (t :: r) = none) := by
  refine ⟨fun h1 h2 => ?_, fun h1 h2 h3 => ?_, fun h1 h2 h3 => ?_, fun h1 h3 => ?_, fun h1 h3 => ?_⟩
  · simp only [resL, h1, h2, and_self, if_true]
  · simp only [resL, h1, h2, h3, and_false, if_false, if_true]
  · simp only [resL, h1, h2, h3, and_false, if_false, if_true]
  · simp only [resL, h1, h3, false_and, if_false, if_true]
  · simp only [resL, h1, h3, false_and, if_false]
set_option maxHeartbeats 4000000 in
set_option maxRecDepth 20000 in
theorem resultG_calls (o : ORow) (ks : List Int) (a : Option Addr) (len cap : Nat) (w : World) (h : NumIn w a len cap ks) :
    Calls Tryd.prog 78 #[.agg #[.string ⟨o.word.toArray⟩, .int .i64 o.has, .int .i64 o.first, .int .i64 o.others, .int .i64 o.gives], .slice a len cap] w fun r w' => r = .returned (.tuple #[.int .i64 (resP o ks).1, .bool (resP o ks).2]) ∧ Cls w w' := by
  obtain ⟨hl, hle, hmax, hh⟩ := h
  unfold maxLen at hmax
  have HH := Lib.hid hh
  have HL := Lib.hid hl
  have HN : Hid (resL o 0 0 ks = none → resP o ks = (0, false)) := Lib.hid resP_none
  have HS : Hid (∀ one, resL o 0 0 ks = some one → resP o ks = (if o.gives = -1 then one else o.gives, true)) := Lib.hid fun one h => resP_some h
  have HI := Lib.hid (resL_is o)
  have HE : Hid (∀ j one, resL o j one [] = some one) := Lib.hid fun j one => by rw [resL]
  have HW : Hid (∀ j, wantAt o j = if j = 0 then o.first else o.others) := Lib.hid (fun j => rfl)
  clear hh hl
  generalize resP o ks = rp at *
  generalize resL o = rl at *
  generalize wantAt o = want at *
  obtain ⟨word, has, first, others, gives⟩ := o
  simp only at *
  go_enter Tryd.func78, Tryd.ntmps78
  go_wp2_with fail
  go_loopw [6, 12] (fun u i wr => ∃ (j : Nat) (one : Int), j ≤ len ∧ u = .int .i64 one ∧ i = .int .i64 j ∧ rl 0 0 ks = rl j one (ks.drop j) ∧ Cls (w.alloc (.cells #[.string ⟨word.toArray⟩, .int .i64 has, .int .i64 first, .int .i64 others, .int .i64 gives] 78)) wr) (fun _ i _ => len - (intOf i).toNat)
  case atStart => exact ⟨0, 0, Nat.zero_le _, rfl, rfl, rfl, Cls.of (Below.refl _ _)⟩
  case round =>
    obtain ⟨j, one, hj, rfl, rfl, hr, x, rfl⟩ := hrel
    have HR := Lib.hid hr
    clear hr
    by_cases hlt : j < len
    · obtain ⟨b, off, rfl, hb, hc⟩ := HH.out.resolve_left (by omega)
      have hb1 : b < w.heap.size + 1 := by omega
      have q := hc j hlt
      have HD := Lib.hid (dropI (l := ks) (j := j) (by rw [HL.out]; exact hlt))
      have hwj := HW.out j
      have hI := Lib.hid (HI.out j one)
      clear hc HW
      generalize ks.getD j 0 = t at *
      generalize want j = wj at *
      by_cases hj0 : j = 0
      all_goals
        first | rw [if_pos hj0] at hwj | rw [if_neg hj0] at hwj
        first | (have bj : ((j : Int) == 0) = true := (by rw [hj0]; rfl)) | (have bj : ((j : Int) == 0) = false := (by simp [hj0]))
        clear hj0
        by_cases hw1 : wj = -1
        · by_cases ho0 : one = 0
          · have hN : rl 0 0 ks = rl (j + 1) t (ks.drop (j + 1)) := by rw [HR.out, HD.out]; exact (hI.out t _).1 hw1 ho0
            have HN2 := Lib.hid hN
            have b1 : (wj == -1) = true := by simp [hw1]
            have b2 : (one == 0) = true := by simp [ho0]
            rw [hwj] at b1
            clear hN hwj hw1 ho0
            go_wp2_with fail
            go_roundw
            case rel => exact ⟨j + 1, t, by omega, rfl, by go_num, HN2.out, x, rfl⟩
            case measure => simp [intOf]; omega
          · have b1 : (wj == -1) = true := by simp [hw1]
            have b2 : (one == 0) = false := by simp [ho0]
            rw [hwj] at b1
            by_cases ht : t = one
            · have hN : rl 0 0 ks = rl (j + 1) one (ks.drop (j + 1)) := by rw [HR.out, HD.out]; exact (hI.out t _).2.1 hw1 ho0 ht
              have HN2 := Lib.hid hN
              subst ht
              clear hN hwj hw1 ho0
              go_wp2_with fail
              go_roundw
              case rel => exact ⟨j + 1, t, by omega, rfl, by go_num, HN2.out, x, rfl⟩
              case measure => simp [intOf]; omega
            · have hN : rl 0 0 ks = none := by rw [HR.out, HD.out]; exact (hI.out t _).2.2.1 hw1 ho0 ht
              have HN2 := Lib.hid (HN.out hN)
              have b3 : (t == one) = false := by simp [ht]
              have b3' : (t != one) = true := by simp [ht]
              clear hN hwj hw1 ho0 ht
              go_wp2_with fail
              go_ret2
              rw [HN2.out]
              refine ⟨rfl, Cls.of ?_⟩
              repeat first | with_reducible exact Below.refl _ _ | with_reducible refine Below.setCell ?_ (by first | omega | (simp; done) | (simp; omega)) _ | with_reducible refine Below.alloc ?_ (by first | omega | (simp; done) | (simp; omega)) _ | with_reducible refine Below.drew ?_ | with_reducible refine Ext.on _ ?_ (by first | omega | (simp; done) | (simp; omega))
        · have b1 : (wj == -1) = false := by simp [hw1]
          by_cases ht : t = wj
          · have hN : rl 0 0 ks = rl (j + 1) one (ks.drop (j + 1)) := by rw [HR.out, HD.out]; exact (hI.out t _).2.2.2.1 hw1 ht
            have HN2 := Lib.hid hN
            rw [hwj] at b1
            rw [hwj] at ht
            subst ht
            clear hN hwj hw1
            go_wp2_with fail
            go_roundw
            case rel => exact ⟨j + 1, one, by omega, rfl, by go_num, HN2.out, x, rfl⟩
            case measure => simp [intOf]; omega
          · have hN : rl 0 0 ks = none := by rw [HR.out, HD.out]; exact (hI.out t _).2.2.2.2 hw1 ht
            have HN2 := Lib.hid (HN.out hN)
            have b3 : (t == wj) = false := by simp [ht]
            have b3' : (t != wj) = true := by simp [ht]
            rw [hwj] at b1 b3 b3'
            clear hN hwj hw1 ht
            go_wp2_with fail
            go_ret2
            rw [HN2.out]
            refine ⟨rfl, Cls.of ?_⟩
            repeat first | with_reducible exact Below.refl _ _ | with_reducible refine Below.setCell ?_ (by first | omega | (simp; done) | (simp; omega)) _ | with_reducible refine Below.alloc ?_ (by first | omega | (simp; done) | (simp; omega)) _ | with_reducible refine Below.drew ?_ | with_reducible refine Ext.on _ ?_ (by first | omega | (simp; done) | (simp; omega))
    · have hN : rl 0 0 ks = some one := by rw [HR.out, List.drop_of_length_le (by rw [HL.out]; omega), HE.out]
      have HN2 := Lib.hid (HS.out _ hN)
      clear hN
      by_cases hg : gives = -1
      · have b1 : (gives == -1) = true := by simp [hg]
        have HG := Lib.hid hg
        clear hg
        go_wp2_with fail
        go_ret2
        rw [HN2.out, if_pos HG.out]
        refine ⟨rfl, Cls.of ?_⟩
        repeat first | with_reducible exact Below.refl _ _ | with_reducible refine Below.setCell ?_ (by first | omega | (simp; done) | (simp; omega)) _ | with_reducible refine Below.alloc ?_ (by first | omega | (simp; done) | (simp; omega)) _ | with_reducible refine Below.drew ?_ | with_reducible refine Ext.on _ ?_ (by first | omega | (simp; done) | (simp; omega))
      · have b1 : (gives == -1) = false := by simp [hg]
        have HG := Lib.hid hg
        clear hg
        go_wp2_with fail
        go_ret2
        rw [HN2.out, if_neg HG.out]
        refine ⟨rfl, Cls.of ?_⟩
        repeat first | with_reducible exact Below.refl _ _ | with_reducible refine Below.setCell ?_ (by first | omega | (simp; done) | (simp; omega)) _ | with_reducible refine Below.alloc ?_ (by first | omega | (simp; done) | (simp; omega)) _ | with_reducible refine Below.drew ?_ | with_reducible refine Ext.on _ ?_ (by first | omega | (simp; done) | (simp; omega))
end Go.Proofs.YtpddkljedhghkaaDoor
