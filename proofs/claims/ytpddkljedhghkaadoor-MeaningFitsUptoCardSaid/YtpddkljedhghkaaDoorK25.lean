/-
  The first error of a table by itself, and of a schema: the program's Valid. The first error of a schema: the program's Valid. Whether an instance fits a schema: the first error.
-/
import Derived.Test.YtpddkljedhghkaaDoorK22
import Derived.Test.YtpddkljedhghkaaDoorK23
import Derived.Test.YtpddkljedhghkaaDoorK24
import Derived.Test.YtpddkljedhghkaaDoorK08
import Derived.Test.YtpddkljedhghkaaDoorK20
set_option linter.unusedVariables false
namespace Go.Proofs.YtpddkljedhghkaaDoor
open Go Go.RowKit Go.Deep
theorem ChkT.later {w w' : World} {t : Tb} {g : Nat → Int × Int} (h : ChkT w t g) (hb : Below w.heap.size w w') : ChkT w' t g := fun i hi W s a len cap hW h1 h2 h3 => h i hi W s a len cap (hb.trans (hW.mono hb.size)) h1 h2 h3
def tableE (t : Tb) (g : Nat → Int × Int) : Int :=
  if 8 < t.cs.len ∨ 3 < t.us.len ∨ 3 < t.fs.len ∨ 4 < t.ks.len then 8 else if t.cs.len = 0 then 9 else if colE t = 0 then (if keyE t = 0 then chkE g t.ks.len else keyE t) else colE t
theorem tableE_is (t : Tb) (g : Nat → Int × Int) : ((8 < t.cs.len ∨ 3 < t.us.len ∨ 3 < t.fs.len ∨ 4 < t.ks.len) → tableE t g = 8) ∧ (¬ (8 < t.cs.len ∨ 3 < t.us.len ∨ 3 < t.fs.len ∨ 4 < t.ks.len) → (t.cs.len = 0 → tableE t g = 9) ∧ (t.cs.len ≠ 0 → (colE t ≠ 0 → tableE t g = colE t) ∧ (colE t = 0 → (keyE t ≠ 0 → tableE t g = keyE t) ∧ (keyE t = 0 → tableE t g = chkE g t.ks.len)))) := by
  unfold tableE
  refine ⟨fun h => if_pos h, fun h => ?_⟩
  rw [if_neg h]
  refine ⟨fun h => if_pos h, fun h => ?_⟩
  rw [if_neg h]
  refine ⟨fun h => if_neg h, fun h => ?_⟩
  rw [if_pos h]
  exact ⟨fun h => if_neg h, fun h => if_pos h⟩
set_option maxHeartbeats 8000000 in
set_option maxRecDepth 20000 in
theorem tableError_calls (t : Tb) (g : Nat → Int × Int) (w : World) (h : TbAt w t) (hg : ChkT w t g) :
    Calls Tryd.prog 55 #[.agg #[.string t.name, .slice t.cs.a t.cs.len t.cs.cap, .slice t.ps.a t.ps.len t.ps.cap, .slice t.us.a t.us.len t.us.cap, .slice t.fs.a t.fs.len t.fs.cap, .slice t.ks.a t.ks.len t.ks.cap]] w fun r w' => r = .returned (.int .i64 (tableE t g)) ∧ Cls w w' := by
  have C1 : Hid (∀ W, Below w.heap.size w W → Calls Tryd.prog 98 #[.agg #[.string t.name, .slice t.cs.a t.cs.len t.cs.cap, .slice t.ps.a t.ps.len t.ps.cap, .slice t.us.a t.us.len t.us.cap, .slice t.fs.a t.fs.len t.fs.cap, .slice t.ks.a t.ks.len t.ks.cap]] W fun r w' => r = .returned (.int .i64 (colE t)) ∧ Cls W w') := Lib.hid fun W hW => columnError_calls t W (h.later hW)
  have C2 : Hid (∀ W, Below w.heap.size w W → Calls Tryd.prog 99 #[.agg #[.string t.name, .slice t.cs.a t.cs.len t.cs.cap, .slice t.ps.a t.ps.len t.ps.cap, .slice t.us.a t.us.len t.us.cap, .slice t.fs.a t.fs.len t.fs.cap, .slice t.ks.a t.ks.len t.ks.cap]] W fun r w' => r = .returned (.int .i64 (keyE t)) ∧ Cls W w') := Lib.hid fun W hW => keyError_calls t W (h.later hW)
  have C3 : Hid (t.cs.len ≤ 8 → ∀ W, Below w.heap.size w W → Calls Tryd.prog 100 #[.agg #[.string t.name, .slice t.cs.a t.cs.len t.cs.cap, .slice t.ps.a t.ps.len t.ps.cap, .slice t.us.a t.us.len t.us.cap, .slice t.fs.a t.fs.len t.fs.cap, .slice t.ks.a t.ks.len t.ks.cap]] W fun r w' => r = .returned (.int .i64 (chkE g t.ks.len)) ∧ Cls W w') := Lib.hid fun hc W hW => checkError_calls t g W (h.later hW) (hg.later hW) (by omega)
  have HI := Lib.hid (tableE_is t g)
  clear h hg
  generalize tableE t g = te at HI ⊢
  generalize chkE g t.ks.len = he at HI C3
  generalize colE t = ce at HI C1
  generalize keyE t = ke at HI C2
  obtain ⟨tn, ⟨ca, cn, cc⟩, tf, tps, tprim, ⟨ua, un, uc⟩, tuq, tuqn, ⟨fa, fn, fc⟩, tfk, tfkn, tfkt, ⟨ka, kn, kc⟩, tch⟩ := t
  simp only at C1 C2 C3 HI ⊢
  go_enter Tryd.func55, Tryd.ntmps55
  by_cases h1 : 8 < cn
  · have d1 : decide ((8 : Int) < (cn : Nat)) = true := by simp; omega
    have HT := Lib.hid (HI.out.1 (.inl h1))
    clear HI
    go_wp2_with fail
    go_ret
    refine ⟨ret_int (by rw [HT.out]), Cls.of ?_⟩
    repeat first | with_reducible exact Below.refl _ _ | with_reducible refine Below.setCell ?_ (by first | omega | (simp; done) | (simp; omega)) _ | with_reducible refine Below.alloc ?_ (by first | omega | (simp; done) | (simp; omega)) _ | with_reducible refine Below.drew ?_ | with_reducible refine Ext.on _ ?_ (by first | omega | (simp; done) | (simp; omega))
  have d1 : decide ((8 : Int) < (cn : Nat)) = false := by simp; omega
  by_cases h2 : 3 < un
  · have d2 : decide ((3 : Int) < (un : Nat)) = true := by simp; omega
    have HT := Lib.hid (HI.out.1 (.inr (.inl h2)))
    clear HI
    go_wp2_with fail
    go_ret
    refine ⟨ret_int (by rw [HT.out]), Cls.of ?_⟩
    repeat first | with_reducible exact Below.refl _ _ | with_reducible refine Below.setCell ?_ (by first | omega | (simp; done) | (simp; omega)) _ | with_reducible refine Below.alloc ?_ (by first | omega | (simp; done) | (simp; omega)) _ | with_reducible refine Below.drew ?_ | with_reducible refine Ext.on _ ?_ (by first | omega | (simp; done) | (simp; omega))
  have d2 : decide ((3 : Int) < (un : Nat)) = false := by simp; omega
  by_cases h3 : 3 < fn
  · have d3 : decide ((3 : Int) < (fn : Nat)) = true := by simp; omega
    have HT := Lib.hid (HI.out.1 (.inr (.inr (.inl h3))))
    clear HI
    go_wp2_with fail
    go_ret
    refine ⟨ret_int (by rw [HT.out]), Cls.of ?_⟩
    repeat first | with_reducible exact Below.refl _ _ | with_reducible refine Below.setCell ?_ (by first | omega | (simp; done) | (simp; omega)) _ | with_reducible refine Below.alloc ?_ (by first | omega | (simp; done) | (simp; omega)) _ | with_reducible refine Below.drew ?_ | with_reducible refine Ext.on _ ?_ (by first | omega | (simp; done) | (simp; omega))
  have d3 : decide ((3 : Int) < (fn : Nat)) = false := by simp; omega
  by_cases h4 : 4 < kn
  · have d4 : decide ((4 : Int) < (kn : Nat)) = true := by simp; omega
    have HT := Lib.hid (HI.out.1 (.inr (.inr (.inr h4))))
    clear HI
    go_wp2_with fail
    go_ret
    refine ⟨ret_int (by rw [HT.out]), Cls.of ?_⟩
    repeat first | with_reducible exact Below.refl _ _ | with_reducible refine Below.setCell ?_ (by first | omega | (simp; done) | (simp; omega)) _ | with_reducible refine Below.alloc ?_ (by first | omega | (simp; done) | (simp; omega)) _ | with_reducible refine Below.drew ?_ | with_reducible refine Ext.on _ ?_ (by first | omega | (simp; done) | (simp; omega))
  have d4 : decide ((4 : Int) < (kn : Nat)) = false := by simp; omega
  have HJ := Lib.hid (HI.out.2 (by omega))
  have CH := Lib.hid (C3.out (by omega))
  clear HI C3
  by_cases h5 : cn = 0
  · have d5 : ((cn : Int) == 0) = true := by simp; omega
    have HT := Lib.hid (HJ.out.1 h5)
    clear HJ h5
    go_wp2_with fail
    go_ret
    refine ⟨ret_int (by rw [HT.out]), Cls.of ?_⟩
    repeat first | with_reducible exact Below.refl _ _ | with_reducible refine Below.setCell ?_ (by first | omega | (simp; done) | (simp; omega)) _ | with_reducible refine Below.alloc ?_ (by first | omega | (simp; done) | (simp; omega)) _ | with_reducible refine Below.drew ?_ | with_reducible refine Ext.on _ ?_ (by first | omega | (simp; done) | (simp; omega))
  have d5 : ((cn : Int) == 0) = false := by simp; omega
  have HK := Lib.hid (HJ.out.2 h5)
  clear HJ
  by_cases h6 : ce = 0
  · have HL := Lib.hid (HK.out.2 h6)
    clear HK
    subst h6
    by_cases h7 : ke = 0
    · have HT := Lib.hid (HL.out.2 h7)
      clear HL
      subst h7
      go_wp2_with (first | (go_at_call 98; ((with_reducible refine (C1.out _ (by repeat first | with_reducible exact Below.refl _ _ | with_reducible refine Below.setCell ?_ (by first | omega | (simp; done) | (simp; omega)) _ | with_reducible refine Below.alloc ?_ (by first | omega | (simp; done) | (simp; omega)) _ | with_reducible refine Below.drew ?_ | with_reducible refine Ext.on _ ?_ (by first | omega | (simp; done) | (simp; omega)))).mono ?_); rintro r _ ⟨rfl, y, rfl⟩; obtain ⟨l1, l2, l3, l4, l5⟩ := y.lts (b := w.heap.size) (by simp))) | (go_at_call 99; ((with_reducible refine (C2.out _ (by repeat first | with_reducible exact Below.refl _ _ | with_reducible refine Below.setCell ?_ (by first | omega | (simp; done) | (simp; omega)) _ | with_reducible refine Below.alloc ?_ (by first | omega | (simp; done) | (simp; omega)) _ | with_reducible refine Below.drew ?_ | with_reducible refine Ext.on _ ?_ (by first | omega | (simp; done) | (simp; omega)))).mono ?_); rintro r _ ⟨rfl, z, rfl⟩; obtain ⟨l6, l7, l8, l9, l10⟩ := z.lts (b := w.heap.size) (by omega))) | (go_at_call 100; ((with_reducible refine (CH.out _ (by repeat first | with_reducible exact Below.refl _ _ | with_reducible refine Below.setCell ?_ (by first | omega | (simp; done) | (simp; omega)) _ | with_reducible refine Below.alloc ?_ (by first | omega | (simp; done) | (simp; omega)) _ | with_reducible refine Below.drew ?_ | with_reducible refine Ext.on _ ?_ (by first | omega | (simp; done) | (simp; omega)))).mono ?_); rintro r _ ⟨rfl, v, rfl⟩)))
      go_ret
      refine ⟨ret_int (by rw [HT.out]), Cls.of ?_⟩
      repeat first | with_reducible exact Below.refl _ _ | with_reducible refine Below.setCell ?_ (by first | omega | (simp; done) | (simp; omega)) _ | with_reducible refine Below.alloc ?_ (by first | omega | (simp; done) | (simp; omega)) _ | with_reducible refine Below.drew ?_ | with_reducible refine Ext.on _ ?_ (by first | omega | (simp; done) | (simp; omega))
    · have HT := Lib.hid (HL.out.1 h7)
      have d7 : (ke == 0) = false := by simp [h7]
      have d7' : (ke != 0) = true := by simp [h7]
      clear HL h7
      go_wp2_with (first | (go_at_call 98; ((with_reducible refine (C1.out _ (by repeat first | with_reducible exact Below.refl _ _ | with_reducible refine Below.setCell ?_ (by first | omega | (simp; done) | (simp; omega)) _ | with_reducible refine Below.alloc ?_ (by first | omega | (simp; done) | (simp; omega)) _ | with_reducible refine Below.drew ?_ | with_reducible refine Ext.on _ ?_ (by first | omega | (simp; done) | (simp; omega)))).mono ?_); rintro r _ ⟨rfl, y, rfl⟩; obtain ⟨l1, l2, l3, l4, l5⟩ := y.lts (b := w.heap.size) (by simp))) | (go_at_call 99; ((with_reducible refine (C2.out _ (by repeat first | with_reducible exact Below.refl _ _ | with_reducible refine Below.setCell ?_ (by first | omega | (simp; done) | (simp; omega)) _ | with_reducible refine Below.alloc ?_ (by first | omega | (simp; done) | (simp; omega)) _ | with_reducible refine Below.drew ?_ | with_reducible refine Ext.on _ ?_ (by first | omega | (simp; done) | (simp; omega)))).mono ?_); rintro r _ ⟨rfl, z, rfl⟩)))
      go_ret
      refine ⟨ret_int (by rw [HT.out]), Cls.of ?_⟩
      repeat first | with_reducible exact Below.refl _ _ | with_reducible refine Below.setCell ?_ (by first | omega | (simp; done) | (simp; omega)) _ | with_reducible refine Below.alloc ?_ (by first | omega | (simp; done) | (simp; omega)) _ | with_reducible refine Below.drew ?_ | with_reducible refine Ext.on _ ?_ (by first | omega | (simp; done) | (simp; omega))
  · have HT := Lib.hid (HK.out.1 h6)
    have d6 : (ce == 0) = false := by simp [h6]
    have d6' : (ce != 0) = true := by simp [h6]
    clear HK h6
    go_wp2_with (go_at_call 98; ((with_reducible refine (C1.out _ (by repeat first | with_reducible exact Below.refl _ _ | with_reducible refine Below.setCell ?_ (by first | omega | (simp; done) | (simp; omega)) _ | with_reducible refine Below.alloc ?_ (by first | omega | (simp; done) | (simp; omega)) _ | with_reducible refine Below.drew ?_ | with_reducible refine Ext.on _ ?_ (by first | omega | (simp; done) | (simp; omega)))).mono ?_); rintro r _ ⟨rfl, y, rfl⟩))
    go_ret
    refine ⟨ret_int (by rw [HT.out]), Cls.of ?_⟩
    repeat first | with_reducible exact Below.refl _ _ | with_reducible refine Below.setCell ?_ (by first | omega | (simp; done) | (simp; omega)) _ | with_reducible refine Below.alloc ?_ (by first | omega | (simp; done) | (simp; omega)) _ | with_reducible refine Below.drew ?_ | with_reducible refine Ext.on _ ?_ (by first | omega | (simp; done) | (simp; omega))
/-- The error of table i. -/
def vtE (sl : Sl) (tb : Nat → Tb) (g : Nat → Nat → Int × Int) (i : Nat) : Int :=
  if nameE (tb i).name (decide (at0 (idx (nameP tb (tb i).name) 0 sl.len) < i)) = 0 then tableE (tb i) (g i) else nameE (tb i).name (decide (at0 (idx (nameP tb (tb i).name) 0 sl.len) < i))
theorem vtE_is (sl : Sl) (tb : Nat → Tb) (g : Nat → Nat → Int × Int) (i : Nat) : (nameE (tb i).name (decide (at0 (idx (nameP tb (tb i).name) 0 sl.len) < i)) = 0 → vtE sl tb g i = tableE (tb i) (g i)) ∧ (nameE (tb i).name (decide (at0 (idx (nameP tb (tb i).name) 0 sl.len) < i)) ≠ 0 → vtE sl tb g i = nameE (tb i).name (decide (at0 (idx (nameP tb (tb i).name) 0 sl.len) < i))) := by
  unfold vtE
  exact ⟨fun h => if_pos h, fun h => if_neg h⟩
/-- The first error of a schema. -/
def validE (sl : Sl) (tb : Nat → Tb) (g : Nat → Nat → Int × Int) : Int :=
  if 6 < sl.len then 8 else if fstE (vtE sl tb g) 0 sl.len = 0 then (if tgtE sl tb = 0 then (if (ordL sl tb sl.len).length < sl.len then 7 else 0) else tgtE sl tb) else fstE (vtE sl tb g) 0 sl.len
theorem validE_is (sl : Sl) (tb : Nat → Tb) (g : Nat → Nat → Int × Int) : (6 < sl.len → validE sl tb g = 8) ∧ (¬ 6 < sl.len → (fstE (vtE sl tb g) 0 sl.len ≠ 0 → validE sl tb g = fstE (vtE sl tb g) 0 sl.len) ∧ (fstE (vtE sl tb g) 0 sl.len = 0 → (tgtE sl tb ≠ 0 → validE sl tb g = tgtE sl tb) ∧ (tgtE sl tb = 0 → ((ordL sl tb sl.len).length < sl.len → validE sl tb g = 7) ∧ ((ordL sl tb sl.len).length = sl.len → validE sl tb g = 0)))) := by
  unfold validE
  refine ⟨fun h => if_pos h, fun h => ?_⟩
  rw [if_neg h]
  refine ⟨fun h => if_neg h, fun h => ?_⟩
  rw [if_pos h]
  refine ⟨fun h => if_neg h, fun h => ?_⟩
  rw [if_pos h]
  exact ⟨fun h => if_pos h, fun h => if_neg (by omega)⟩
theorem vtE_key {sl : Sl} {tb : Nat → Tb} {g : Nat → Nat → Int × Int} (h : fstE (vtE sl tb g) 0 sl.len = 0) {i : Nat} (hi : i < sl.len) : keyE (tb i) = 0 ∧ (tb i).fs.len ≤ 3 := by
  have h1 := fstE_of _ _ h i (Nat.zero_le _) (by omega)
  have h2 := vtE_is sl tb g i
  by_cases hn : nameE (tb i).name (decide (at0 (idx (nameP tb (tb i).name) 0 sl.len) < i)) = 0
  · rw [h2.1 hn] at h1
    have h3 := tableE_is (tb i) (g i)
    by_cases h4 : 8 < (tb i).cs.len ∨ 3 < (tb i).us.len ∨ 3 < (tb i).fs.len ∨ 4 < (tb i).ks.len
    · rw [h3.1 h4] at h1
      cases h1
    · obtain ⟨h5, h6⟩ := h3.2 h4
      by_cases h7 : (tb i).cs.len = 0
      · rw [h5 h7] at h1
        cases h1
      · obtain ⟨h8, h9⟩ := h6 h7
        by_cases h10 : colE (tb i) = 0
        · obtain ⟨h11, h12⟩ := h9 h10
          by_cases h13 : keyE (tb i) = 0
          · exact ⟨h13, by omega⟩
          · rw [h11 h13] at h1
            exact absurd h1 h13
        · rw [h8 h10] at h1
          exact absurd h1 h10
  · rw [h2.2 hn] at h1
    exact absurd h1 hn
end Go.Proofs.YtpddkljedhghkaaDoor
set_option linter.unusedVariables false
namespace Go.Proofs.YtpddkljedhghkaaDoor
open Go Go.RowKit Go.Deep
theorem ord_form_v {sl : Sl} {tb : Nat → Tb} {w w' : World} {r : Ending} (hall : allT sl tb) (h : OrdIs sl tb w r w') : ∃ (a : Option Addr) (n c : Nat) (e : Int), r = .returned (.tuple #[.slice a n c, .int .i64 e]) ∧ Cls w w' ∧ ((ordL sl tb sl.len).length < sl.len → e = 7) ∧ ((ordL sl tb sl.len).length = sl.len → e = 0) := by
  rcases h with ⟨a, rfl, c⟩ | ⟨a, b, rfl, c⟩ | ⟨a, b, s, rfl, hs, hat, c⟩
  · exact absurd hall a
  · exact ⟨_, _, _, _, rfl, c, fun _ => rfl, fun h => by omega⟩
  · exact ⟨_, _, _, _, rfl, c, fun h => by omega, fun _ => rfl⟩
theorem ordL_len_le (sl : Sl) (tb : Nat → Tb) : ∀ k, (ordL sl tb k).length ≤ k
  | 0 => Nat.le_refl _
  | k + 1 => by
    have ih := ordL_len_le sl tb k
    unfold ordL
    split
    · rw [List.length_append]
      simp
      exact ih
    · omega
set_option maxHeartbeats 8000000 in
set_option maxRecDepth 20000 in
theorem sValid_calls (sl : Sl) (tb : Nat → Tb) (g : Nat → Nat → Int × Int) (w : World) (h : TabsAt w sl tb) (hg : ∀ i, i < sl.len → ChkT w (tb i) (g i)) :
    Calls Tryd.prog 17 #[.agg #[.slice sl.a sl.len sl.cap]] w fun r w' => r = .returned (.int .i64 (validE sl tb g)) ∧ Cls w w' := by
  have hle := h.1.1
  have hmax := h.1.2.1
  unfold maxLen at hmax
  have HRW : Hid (∀ j, j < sl.len → ∃ b off, sl.a = some ⟨b, off, none⟩ ∧ b < w.heap.size ∧ ∀ i, i < 6 → w.cell? ⟨b, off + j * 6 + i, none⟩ = ((tb j).cells)[i]?) := Lib.hid h.1.2.2.2
  have HFI : Hid (∀ (s : ByteArray) (W : World), Below w.heap.size w W → Calls Tryd.prog 53 #[.agg #[.slice sl.a sl.len sl.cap], .string s] W fun r w' => r = .returned (.tuple #[.int .i64 (at0 (idx (nameP tb s) 0 sl.len)), .bool (decide (0 ≤ idx (nameP tb s) 0 sl.len))]) ∧ Cls W w') := Lib.hid fun s W hW => Find_calls sl tb s W (h.later hW)
  have HTE : Hid (∀ j, j < sl.len → ∀ W, Below w.heap.size w W → Calls Tryd.prog 55 #[.agg #[.string (tb j).name, .slice (tb j).cs.a (tb j).cs.len (tb j).cs.cap, .slice (tb j).ps.a (tb j).ps.len (tb j).ps.cap, .slice (tb j).us.a (tb j).us.len (tb j).us.cap, .slice (tb j).fs.a (tb j).fs.len (tb j).fs.cap, .slice (tb j).ks.a (tb j).ks.len (tb j).ks.cap]] W fun r w' => r = .returned (.int .i64 (tableE (tb j) (g j))) ∧ Cls W w') := Lib.hid fun j hj W hW => tableError_calls (tb j) (g j) W ((h.2 j hj).later hW) ((hg j hj).later hW)
  have HNS : Hid (∀ j, j < sl.len → (tb j).name.size ≤ maxLen) := Lib.hid fun j hj => (h.2 j hj).name
  have HTG : Hid (fstE (vtE sl tb g) 0 sl.len = 0 → ∀ W, Below w.heap.size w W → Calls Tryd.prog 56 #[.agg #[.slice sl.a sl.len sl.cap]] W fun r w' => r = .returned (.int .i64 (tgtE sl tb)) ∧ Cls W w') := Lib.hid fun he W hW => targetError_calls sl tb W (h.later hW) fun i hi => (vtE_key he hi).1
  have HOR : Hid (fstE (vtE sl tb g) 0 sl.len = 0 → sl.len ≤ 10 → ∀ W, Below w.heap.size w W → Calls Tryd.prog 57 #[.agg #[.slice sl.a sl.len sl.cap]] W (OrdIs sl tb W)) := Lib.hid fun he hn W hW => Order_calls sl tb W (h.later hW) hn fun i hi => by
    have := (vtE_key he hi).2
    omega
  have HIS : Hid (∀ j, (nameE (tb j).name (decide (at0 (idx (nameP tb (tb j).name) 0 sl.len) < j)) = 0 → vtE sl tb g j = tableE (tb j) (g j)) ∧ (nameE (tb j).name (decide (at0 (idx (nameP tb (tb j).name) 0 sl.len) < j)) ≠ 0 → vtE sl tb g j = nameE (tb j).name (decide (at0 (idx (nameP tb (tb j).name) 0 sl.len) < j)))) := Lib.hid (vtE_is sl tb g)
  have HV := Lib.hid (validE_is sl tb g)
  have HAL : Hid (tgtE sl tb = 0 → allT sl tb) := Lib.hid tgtE_all
  have HOF : Hid (allT sl tb → ∀ (W : World) (r : Ending) (w' : World), OrdIs sl tb W r w' → ∃ (a : Option Addr) (n c : Nat) (e : Int), r = .returned (.tuple #[.slice a n c, .int .i64 e]) ∧ Cls W w' ∧ ((ordL sl tb sl.len).length < sl.len → e = 7) ∧ ((ordL sl tb sl.len).length = sl.len → e = 0)) := Lib.hid fun ha W r w' ho => ord_form_v ha ho
  have HOL : Hid ((ordL sl tb sl.len).length ≤ sl.len) := Lib.hid (ordL_len_le sl tb sl.len)
  clear h hg
  generalize vtE sl tb g = ve at *
  generalize validE sl tb g = vv at *
  generalize tgtE sl tb = te at *
  generalize OrdIs sl tb = OI at *
  generalize (ordL sl tb sl.len).length = ol at *
  generalize allT sl tb = al at *
  obtain ⟨sa, sn, sc⟩ := sl
  simp only at hle hmax HRW HFI HTE HNS HTG HOR HIS HV HOL HOF ⊢
  go_enter Tryd.func17, Tryd.ntmps17
  by_cases h6 : 6 < sn
  · have d1 : decide ((6 : Int) < (sn : Nat)) = true := by simp; omega
    have HT := Lib.hid (HV.out.1 h6)
    clear HV
    go_wp2_with fail
    go_ret
    refine ⟨ret_int (by rw [HT.out]), Cls.of ?_⟩
    repeat first | with_reducible exact Below.refl _ _ | with_reducible refine Below.setCell ?_ (by first | omega | (simp; done) | (simp; omega)) _ | with_reducible refine Below.alloc ?_ (by first | omega | (simp; done) | (simp; omega)) _ | with_reducible refine Below.drew ?_ | with_reducible refine Ext.on _ ?_ (by first | omega | (simp; done) | (simp; omega))
  have d1 : decide ((6 : Int) < (sn : Nat)) = false := by simp; omega
  have HU := Lib.hid (HV.out.2 h6)
  clear HV
  go_wp2_with fail
  have hbl : (w.alloc (.cells #[.slice sa sn sc] 45)).heap[w.heap.size]? = some (.cells #[.slice sa sn sc] 45) := heap_alloc_new w _
  have HBL := Lib.hid hbl
  have HB0 : Hid (Below w.heap.size w (w.alloc (.cells #[.slice sa sn sc] 45))) := Lib.hid (by repeat first | with_reducible exact Below.refl _ _ | with_reducible refine Below.setCell ?_ (by first | omega | (simp; done) | (simp; omega)) _ | with_reducible refine Below.alloc ?_ (by first | omega | (simp; done) | (simp; omega)) _ | with_reducible refine Below.drew ?_ | with_reducible refine Ext.on _ ?_ (by first | omega | (simp; done) | (simp; omega)))
  have h0s : w.heap.size < (w.alloc (.cells #[.slice sa sn sc] 45)).heap.size := by simp
  clear hbl
  generalize (w.alloc (.cells #[.slice sa sn sc] 45)) = W0 at *
  go_loopw [19] (fun i wr => ∃ j : Nat, j ≤ sn ∧ i = .int .i64 j ∧ fstE ve 0 sn = fstE ve j (sn - j) ∧ Cls W0 wr) (fun i _ => sn - (intOf i).toNat)
  case atStart => exact ⟨0, Nat.zero_le _, rfl, rfl, Cls.of (Below.refl _ _)⟩
  case round =>
    obtain ⟨j, hj, rfl, he, x, rfl⟩ := hrel
    have HE := Lib.hid he
    clear he
    have xs := x.size
    have HBX : Hid (Below w.heap.size w x.val) := Lib.hid (HB0.out.trans (x.below.mono (by omega)))
    have HX0 := Lib.hid x.below
    have hbx0 : w.heap.size < x.val.heap.size := by omega
    have HSX := Lib.hid ((x.below.block _ (by omega)).trans HBL.out)
    clear HB0 HBL
    generalize x.val = X at *
    obtain ⟨b0, _, k1⟩ := one_z HSX.out
    by_cases hltj : j < sn
    · obtain ⟨b, off, ha, hb2, hc⟩ := HRW.out j hltj
      subst ha
      have q0 := hc 0 (by omega)
      have q1 := hc 1 (by omega)
      have q2 := hc 2 (by omega)
      have q3 := hc 3 (by omega)
      have q4 := hc 4 (by omega)
      have q5 := hc 5 (by omega)
      simp only [Tb.cells, Sl.v, List.getElem?_cons_zero, List.getElem?_cons_succ, Nat.add_zero] at q0 q1 q2 q3 q4 q5
      rw [← HBX.out.cell (p := ⟨b, _, none⟩) hb2] at q0 q1 q2 q3 q4 q5
      have hb3 : b < X.heap.size := by omega
      have hS : Hid (sn - j = (sn - (j + 1)) + 1) := Lib.hid (by omega)
      have hP := Lib.hid (HIS.out j)
      have C1 := Lib.hid (HFI.out (tb j).name)
      have C2 := Lib.hid (HTE.out j hltj)
      have hns := HNS.out j hltj
      have C3 : Hid (∀ tk W, Calls Tryd.prog 54 #[.string (tb j).name, .bool tk] W fun r w' => r = .returned (.int .i64 (nameE (tb j).name tk)) ∧ Cls W w') := Lib.hid fun tk W => nameError_calls _ tk W hns
      clear hc hns
      generalize at0 (idx (nameP tb (tb j).name) 0 sn) = a0 at C1 hP
      generalize decide (0 ≤ idx (nameP tb (tb j).name) 0 sn) = bd at C1
      have C4 := Lib.hid (C3.out (decide (a0 < (j : Nat))))
      clear C3
      generalize nameE (tb j).name (decide (a0 < (j : Nat))) = ne at C4 hP
      generalize tableE (tb j) (g j) = tv at C2 hP
      have HB1 : Hid (Below w.heap.size w (X.alloc (.cells #[.string (tb j).name, .slice (tb j).cs.a (tb j).cs.len (tb j).cs.cap, .slice (tb j).ps.a (tb j).ps.len (tb j).ps.cap, .slice (tb j).us.a (tb j).us.len (tb j).us.cap, .slice (tb j).fs.a (tb j).fs.len (tb j).fs.cap, .slice (tb j).ks.a (tb j).ks.len (tb j).ks.cap] 53))) := Lib.hid (HBX.out.trans (((Below.refl _ _).alloc (Nat.le_refl _) _).mono HBX.out.size))
      have HBN : Hid (Below W0.heap.size W0 (X.alloc (.cells #[.string (tb j).name, .slice (tb j).cs.a (tb j).cs.len (tb j).cs.cap, .slice (tb j).ps.a (tb j).ps.len (tb j).ps.cap, .slice (tb j).us.a (tb j).us.len (tb j).us.cap, .slice (tb j).fs.a (tb j).fs.len (tb j).fs.cap, .slice (tb j).ks.a (tb j).ks.len (tb j).ks.cap] 53))) := Lib.hid (HX0.out.trans (((Below.refl _ _).alloc (Nat.le_refl _) _).mono HX0.out.size))
      have ha1 : X.heap.size < (X.alloc (.cells #[.string (tb j).name, .slice (tb j).cs.a (tb j).cs.len (tb j).cs.cap, .slice (tb j).ps.a (tb j).ps.len (tb j).ps.cap, .slice (tb j).us.a (tb j).us.len (tb j).us.cap, .slice (tb j).fs.a (tb j).fs.len (tb j).fs.cap, .slice (tb j).ks.a (tb j).ks.len (tb j).ks.cap] 53)).heap.size := by simp
      by_cases hne : ne = 0
      · have d2 : (ne == 0) = true := by simp [hne]
        have d2' : (ne != 0) = false := by simp [hne]
        have hP2 := Lib.hid (hP.out.1 hne)
        clear hne hP
        by_cases htv : tv = 0
        · have d3 : (tv == 0) = true := by simp [htv]
          have d3' : (tv != 0) = false := by simp [htv]
          have hP3 : Hid (ve j = 0) := Lib.hid (hP2.out.trans htv)
          clear htv hP2
          go_wp2_with (first | (go_at_call 53; ((with_reducible refine (C1.out _ HB1.out).mono ?_); rintro r _ ⟨rfl, y, rfl⟩; obtain ⟨l1, l2, l3, l4, l5⟩ := y.lts (b := X.heap.size) ha1; have ys := y.size)) | (go_at_call 54; ((with_reducible refine (C4.out _).mono ?_); rintro r _ ⟨rfl, z, rfl⟩; obtain ⟨l6, l7, l8, l9, l10⟩ := z.lts (b := X.heap.size) (by omega); have zs := z.size)) | (go_at_call 55; ((with_reducible refine (C2.out _ (z.on (y.on HB1.out (by have := HB1.out.size; omega)) (by have := HB1.out.size; omega))).mono ?_); rintro r _ ⟨rfl, v, rfl⟩; obtain ⟨l11, l12, l13, l14, l15⟩ := v.lts (b := X.heap.size) (by omega); have vs := v.size)))
          go_roundw
          case rel => exact ⟨j + 1, by omega, by go_num, by rw [HE.out, hS.out, fstE_go hP3.out], Cls.of (v.on (z.on (y.on HBN.out (by omega)) (by omega)) (by omega))⟩
          case measure => simp [intOf]; omega
        · have d3 : (tv == 0) = false := by simp [htv]
          have d3' : (tv != 0) = true := by simp [htv]
          have HTV := Lib.hid htv
          clear htv
          go_wp2_with (first | (go_at_call 53; ((with_reducible refine (C1.out _ HB1.out).mono ?_); rintro r _ ⟨rfl, y, rfl⟩; obtain ⟨l1, l2, l3, l4, l5⟩ := y.lts (b := X.heap.size) ha1; have ys := y.size)) | (go_at_call 54; ((with_reducible refine (C4.out _).mono ?_); rintro r _ ⟨rfl, z, rfl⟩; obtain ⟨l6, l7, l8, l9, l10⟩ := z.lts (b := X.heap.size) (by omega); have zs := z.size)) | (go_at_call 55; ((with_reducible refine (C2.out _ (z.on (y.on HB1.out (by have := HB1.out.size; omega)) (by have := HB1.out.size; omega))).mono ?_); rintro r _ ⟨rfl, v, rfl⟩; obtain ⟨l11, l12, l13, l14, l15⟩ := v.lts (b := X.heap.size) (by omega); have vs := v.size)))
          go_ret
          have hfe : fstE ve 0 sn = tv := by rw [HE.out, hS.out, fstE_stop (by rw [hP2.out]; exact HTV.out), hP2.out]
          exact ⟨ret_int (by rw [HU.out.1 (by rw [hfe]; exact HTV.out), hfe]), Cls.of (v.on (z.on (y.on HB1.out (by omega)) (by omega)) (by omega))⟩
      · have d2 : (ne == 0) = false := by simp [hne]
        have d2' : (ne != 0) = true := by simp [hne]
        have hP2 := Lib.hid (hP.out.2 hne)
        have HNE := Lib.hid hne
        clear hne hP
        go_wp2_with (first | (go_at_call 53; ((with_reducible refine (C1.out _ HB1.out).mono ?_); rintro r _ ⟨rfl, y, rfl⟩; obtain ⟨l1, l2, l3, l4, l5⟩ := y.lts (b := X.heap.size) ha1; have ys := y.size)) | (go_at_call 54; ((with_reducible refine (C4.out _).mono ?_); rintro r _ ⟨rfl, z, rfl⟩; obtain ⟨l6, l7, l8, l9, l10⟩ := z.lts (b := X.heap.size) (by omega); have zs := z.size)))
        go_ret
        have hfe : fstE ve 0 sn = ne := by rw [HE.out, hS.out, fstE_stop (by rw [hP2.out]; exact HNE.out), hP2.out]
        exact ⟨ret_int (by rw [HU.out.1 (by rw [hfe]; exact HNE.out), hfe]), Cls.of (z.on (y.on HB1.out (by omega)) (by omega))⟩
    · have hz : Hid (sn - j = 0) := Lib.hid (by omega)
      have hfe : fstE ve 0 sn = 0 := by rw [HE.out, hz.out]; rfl
      have HU2 := Lib.hid (HU.out.2 hfe)
      have C1 := Lib.hid (HTG.out hfe)
      have C2 := Lib.hid (HOR.out hfe (by omega))
      clear HU HTG HOR hfe HE hz
      by_cases hte : te = 0
      · have d2 : (te == 0) = true := by simp [hte]
        have d2' : (te != 0) = false := by simp [hte]
        have HU3 := Lib.hid (HU2.out.2 hte)
        have HOG := Lib.hid (HOF.out (HAL.out hte))
        clear HU2 hte HOF HAL
        go_wp2_with (first | (go_at_call 56; ((with_reducible refine (C1.out _ HBX.out).mono ?_); rintro r _ ⟨rfl, y, rfl⟩; have ys := y.size; obtain ⟨l1, l2, l3, l4, l5⟩ := y.lts (b := w.heap.size) hbx0)) | (go_at_call 57; ((with_reducible refine (C2.out _ (y.on HBX.out (by omega))).mono ?_); rintro r w3 hq; obtain ⟨oa, on, oc, oe, rfl, ⟨z, rfl⟩, ho1, ho2⟩ := HOG.out _ _ _ hq; have HO1 := Lib.hid (And.intro ho1 ho2); clear hq ho1 ho2)))
        go_ret
        refine ⟨ret_int ?_, Cls.of (z.on (y.on HBX.out (by omega)) (by omega))⟩
        rcases Nat.lt_or_ge ol sn with hol | hol
        · rw [HU3.out.1 hol, HO1.out.1 hol]
        · have hol2 : ol = sn := Nat.le_antisymm HOL.out hol
          rw [HU3.out.2 hol2, HO1.out.2 hol2]
      · have d2 : (te == 0) = false := by simp [hte]
        have d2' : (te != 0) = true := by simp [hte]
        have HU3 := Lib.hid (HU2.out.1 hte)
        clear HU2 hte
        go_wp2_with (go_at_call 56; ((with_reducible refine (C1.out _ HBX.out).mono ?_); rintro r _ ⟨rfl, y, rfl⟩))
        go_ret
        exact ⟨ret_int (by rw [HU3.out]), Cls.of (y.on HBX.out (by omega))⟩
end Go.Proofs.YtpddkljedhghkaaDoor
set_option linter.unusedVariables false
namespace Go.Proofs.YtpddkljedhghkaaDoor
open Go Go.RowKit Go.Deep
/-- A value that is not valid, or neither null nor of the type. -/
def badV (ty : Int) (v : Vl) : Bool := !(vB v.k v.n v.s) || (!(v.k == 0) && !(v.k == ty))
def badE (tys : Nat → Int) (f : Nat → Vl) (j : Nat) : Int := if badV (tys j) (f j) = true then 4 else 0
theorem badE_is (tys : Nat → Int) (f : Nat → Vl) (j : Nat) : (badV (tys j) (f j) = true → badE tys f j = 4) ∧ (badV (tys j) (f j) = false → badE tys f j = 0) := by
  unfold badE
  exact ⟨fun h => if_pos h, fun h => if_neg (by rw [h]; exact Bool.false_ne_true)⟩
def rowE (tys : Nat → Int) (n m : Nat) (f : Nat → Vl) : Int := if m = n then fstE (badE tys f) 0 m else 9
theorem rowE_is (tys : Nat → Int) (n m : Nat) (f : Nat → Vl) : (m ≠ n → rowE tys n m f = 9) ∧ (m = n → rowE tys n m f = fstE (badE tys f) 0 m) := by
  unfold rowE
  exact ⟨fun h => if_neg h, fun h => if_pos h⟩
def rowEk (tys : Nat → Int) (n : Nat) (r : Nat → Sl) (f : Nat → Nat → Vl) (k : Nat) : Int := rowE tys n (r k).len (f k)
def rowsE (tys : Nat → Int) (n len : Nat) (r : Nat → Sl) (f : Nat → Nat → Vl) : Int := if 200 < len then 8 else fstE (rowEk tys n r f) 0 len
theorem rowsE_is (tys : Nat → Int) (n len : Nat) (r : Nat → Sl) (f : Nat → Nat → Vl) : (200 < len → rowsE tys n len r f = 8) ∧ (¬ 200 < len → rowsE tys n len r f = fstE (rowEk tys n r f) 0 len) := by
  unfold rowsE
  exact ⟨fun h => if_pos h, fun h => if_neg h⟩
def tysT (t : Tb) (j : Nat) : Int := (tyL t.col t.cs.len).getD j 0
def tabE (tb : Nat → Tb) (t : Nat → Sl) (r : Nat → Nat → Sl) (f : Nat → Nat → Nat → Vl) (i : Nat) : Int := rowsE (tysT (tb i)) (tb i).cs.len (t i).len (r i) (f i)
/-- The first error of an instance for a schema whose own error is v. -/
def fitE (v : Int) (n : Nat) (tb : Nat → Tb) (m : Nat) (t : Nat → Sl) (r : Nat → Nat → Sl) (f : Nat → Nat → Nat → Vl) : Int := if v = 0 then (if m = n then fstE (tabE tb t r f) 0 n else 9) else v
theorem fitE_is (v : Int) (n : Nat) (tb : Nat → Tb) (m : Nat) (t : Nat → Sl) (r : Nat → Nat → Sl) (f : Nat → Nat → Nat → Vl) : (v ≠ 0 → fitE v n tb m t r f = v) ∧ (v = 0 → m ≠ n → fitE v n tb m t r f = 9) ∧ (v = 0 → m = n → fitE v n tb m t r f = fstE (tabE tb t r f) 0 n) := by
  unfold fitE
  exact ⟨fun h => if_neg h, fun h h2 => by rw [if_pos h, if_neg h2], fun h h2 => by rw [if_pos h, if_pos h2]⟩
end Go.Proofs.YtpddkljedhghkaaDoor
