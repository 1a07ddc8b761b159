/-
  A schema that the tape makes has no error.
-/
import Derived.Test.YtonlmhehddbhoaaDoorJ30
import Derived.Test.YtonlmhehddbhoaaDoorJ21
set_option linter.unusedVariables false
namespace Go.Proofs.YtonlmhehddbhoaaDoor
open Go Go.RowKit Go.Deep
theorem idx_first {p : Nat → Bool} : ∀ (m j n : Nat), j ≤ n → n < j + m → p n = true → (∀ i, j ≤ i → i < n → p i = false) → idx p j m = n
  | 0, j, n, h1, h2, _, _ => by omega
  | m + 1, j, n, h1, h2, h3, h4 => by
    by_cases e : j = n
    · subst e
      exact idx_stop h3
    · rw [idx_go (h4 j (Nat.le_refl _) (by omega))]
      exact idx_first m (j + 1) n (by omega) (by omega) h3 fun i h5 h6 => h4 i (by omega) h6
/-- The name of column j, where fr columns are the table's own. -/
def nmF (fr j : Nat) : ByteArray := if j = 0 then ⟨#[105, 100]⟩ else if j ≤ fr then nmB ⟨#[99]⟩ (j - 1) else nmB ⟨#[102]⟩ (j - 1 - fr)
def allN (fr : Nat) : Bool := (List.range 6).all fun i => nameB (nmF fr i) && (List.range 6).all fun j => ((nmF fr i).toList == (nmF fr j).toList) == decide (i = j)
theorem allN1 : allN 1 = true := by decide +kernel
theorem allN2 : allN 2 = true := by decide +kernel
theorem allN3 : allN 3 = true := by decide +kernel
theorem nmF_is {fr : Nat} (h1 : 1 ≤ fr) (h2 : fr ≤ 3) {i : Nat} (hi : i < 6) : nameB (nmF fr i) = true ∧ ∀ j, j < 6 → ((nmF fr i).toList == (nmF fr j).toList) = decide (i = j) := by
  have h : allN fr = true := by
    rcases (by omega : fr = 1 ∨ fr = 2 ∨ fr = 3) with rfl | rfl | rfl
    · exact allN1
    · exact allN2
    · exact allN3
  unfold allN at h
  have h3 := List.all_eq_true.1 h i (List.mem_range.2 hi)
  simp only [Bool.and_eq_true] at h3
  refine ⟨h3.1, fun j hj => ?_⟩
  have h4 := List.all_eq_true.1 h3.2 j (List.mem_range.2 hj)
  simpa using h4
def allT3 : Bool := (List.range 3).all fun i => nameB (nmB ⟨#[116]⟩ i) && (List.range 3).all fun j => ((nmB ⟨#[116]⟩ i).toList == (nmB ⟨#[116]⟩ j).toList) == decide (i = j)
theorem allT3_is : allT3 = true := by decide +kernel
theorem nmT_is {i : Nat} (hi : i < 3) : nameB (nmB ⟨#[116]⟩ i) = true ∧ ∀ j, j < 3 → ((nmB ⟨#[116]⟩ i).toList == (nmB ⟨#[116]⟩ j).toList) = decide (i = j) := by
  have h := allT3_is
  unfold allT3 at h
  have h3 := List.all_eq_true.1 h i (List.mem_range.2 hi)
  simp only [Bool.and_eq_true] at h3
  refine ⟨h3.1, fun j hj => ?_⟩
  have h4 := List.all_eq_true.1 h3.2 j (List.mem_range.2 hj)
  simpa using h4
/-- What is known of a made table. -/
structure MT (i : Nat) (t : Tb) (fr ff : Nat) : Prop where
  f1 : 1 ≤ fr
  f3 : fr ≤ 3
  f2 : ff ≤ 2
  name : t.name = nmB ⟨#[116]⟩ i
  csl : t.cs.len = 1 + fr + ff
  col : ∀ j, j < 1 + fr + ff → (t.col j).name = nmF fr j ∧ IsTy (t.col j).ty
  col0 : (t.col 0).ty = 1 ∧ (t.col 0).null = false
  colf : ∀ j, j < ff → (t.col (1 + fr + j)).ty = 1
  psl : t.ps.len = 1
  prim : t.prim = fun _ => 0
  usl : t.us.len ≤ 1
  uql : ∀ j, j < t.us.len → (t.uq j).len = 1 ∧ 1 ≤ t.uqn j 0 ∧ t.uqn j 0 ≤ fr
  fsl : t.fs.len = ff
  fkl : ∀ j, j < ff → (t.fk j).len = 1 ∧ t.fkn j 0 = ((1 + fr + j : Nat) : Int)
  fkt : ∀ j, j < ff → ∃ g, g < i ∧ t.fkt j = nmB ⟨#[116]⟩ g
  ksl : t.ks.len ≤ 1
  ckl : t.checks.length = t.ks.len
  cks : ∀ e ∈ t.checks, Made (tyL t.col t.cs.len) 2 2 e
theorem getD_map_range {α : Type} (f : Nat → α) (n i : Nat) (d : α) (h : i < n) : ((List.range n).map f).getD i d = f i := by
  simp [List.getD, h]
theorem MT.of {i : Nat} {t : Tb} (h : MadeTb i t) : ∃ fr ff, MT i t fr ff := by
  obtain ⟨fr, ff, ty, nl, fnl, tgt, ul, fl, ck, s1, s2, s3, s4, pb, rfl, l1, l2, l3, l4, h1, h2, h3, h4, h5, h6, h7, h8, h9, h10⟩ := h
  have hfl : fl.length = ff := by
    have := congrArg List.length h5
    simpa using this
  have hcl : (colL ty nl fr ++ fcL fnl ff).length = 1 + fr + ff := by rw [List.length_append, colL_len, fcL_len]
  have hA : ∀ j, j < fr → (colL ty nl fr ++ fcL fnl ff).getD (1 + j) default = ⟨nmB ⟨#[99]⟩ j, ty j, nl j⟩ := fun j hj => by
    rw [List.getD_eq_getElem?_getD, List.getElem?_append_left (by rw [colL_len]; omega), ← List.getD_eq_getElem?_getD]
    unfold colL
    rw [Nat.add_comm 1 j]
    show ((List.range fr).map _).getD j default = _
    rw [getD_map_range _ _ _ _ hj]
  have hB : ∀ j, j < ff → (colL ty nl fr ++ fcL fnl ff).getD (1 + fr + j) default = ⟨nmB ⟨#[102]⟩ j, 1, fnl j⟩ := fun j hj => by
    rw [List.getD_eq_getElem?_getD, List.getElem?_append_right (by rw [colL_len]; omega), ← List.getD_eq_getElem?_getD, colL_len, Nat.add_sub_cancel_left]
    unfold fcL
    rw [getD_map_range _ _ _ _ hj]
  have hF : ∀ j, j < ff → (fl.getD j default).n = ((1 + fr + j : Nat) : Int) ∧ (fl.getD j default).nm = nmB ⟨#[116]⟩ (tgt j) := fun j hj => by
    have e := congrArg (fun l => l.getD j ((0 : Int), (⟨#[]⟩ : ByteArray))) h5
    rw [getD_map_range _ _ _ _ hj] at e
    have e2 : (fl.map (fun r => (r.n, r.nm))).getD j ((0 : Int), (⟨#[]⟩ : ByteArray)) = ((fl.getD j default).n, (fl.getD j default).nm) := by
      have : j < fl.length := by omega
      simp [List.getD, this]
    rw [e2] at e
    simpa using e
  refine ⟨fr, ff, h1, h2, h3, rfl, l1, fun j hj => ?_, ⟨rfl, rfl⟩, fun j hj => ?_, rfl, rfl, by show s2.len ≤ 1; omega, fun j hj => ?_, l3, fun j hj => ?_, fun j hj => ?_, by show s4.len ≤ 1; omega, by show ck.length = s4.len; omega, fun e he => ?_⟩
  · show ((colL ty nl fr ++ fcL fnl ff).getD j default).name = _ ∧ IsTy ((colL ty nl fr ++ fcL fnl ff).getD j default).ty
    by_cases e0 : j = 0
    · subst e0
      exact ⟨rfl, .inl rfl⟩
    · by_cases e1 : j ≤ fr
      · obtain ⟨k, rfl⟩ : ∃ k, j = 1 + k := ⟨j - 1, by omega⟩
        rw [hA k (by omega)]
        unfold nmF
        rw [if_neg e0, if_pos e1]
        exact ⟨by rw [Nat.add_sub_cancel_left], h4 k (by omega)⟩
      · obtain ⟨k, rfl⟩ : ∃ k, j = 1 + fr + k := ⟨j - 1 - fr, by omega⟩
        rw [hB k (by omega)]
        unfold nmF
        rw [if_neg e0, if_neg e1]
        exact ⟨by rw [show 1 + fr + k - 1 - fr = k by omega], .inl rfl⟩
  · show ((colL ty nl fr ++ fcL fnl ff).getD (1 + fr + j) default).ty = 1
    rw [hB j hj]
  · have hj2 : j < ul.length := by
      have : j < s2.len := hj
      omega
    have hm : ul.getD j default ∈ ul := by
      rw [List.getD_eq_getElem?_getD, List.getElem?_eq_getElem hj2]
      exact List.getElem_mem hj2
    exact ⟨rfl, (h8 _ hm).1, (h8 _ hm).2⟩
  · exact ⟨rfl, (hF j hj).1⟩
  · exact ⟨tgt j, h6 j hj, (hF j hj).2⟩
  · have hty := tyL_colOf (colL ty nl fr ++ fcL fnl ff) s1.len (by rw [l1, hcl])
    show Made (tyL (fun i => (colL ty nl fr ++ fcL fnl ff).getD i default) s1.len) 2 2 e
    rw [hty]
    exact h10 _ he
theorem keyB_one {n : Nat} {f : Nat → Int} (h0 : 0 ≤ f 0) (h1 : f 0 < n) : keyB n f 1 = true := by
  have hb : badK n f 0 = false := by
    unfold badK
    have e1 : decide (f 0 < 0) = false := by simp; omega
    have e2 : decide ((n : Int) ≤ f 0) = false := by simp; omega
    rw [e1, e2]
    rfl
  have h2 : idx (badK n f) 0 1 = -1 := by
    rw [idx_go hb]
    rfl
  rw [keyB_end h2]
  rfl
namespace MT
variable {i fr ff : Nat} {t : Tb}
theorem colE0 (h : MT i t fr ff) : colE t = 0 := by
  have hf1 := h.f1
  have hf3 := h.f3
  have hf2 := h.f2
  unfold colE
  refine fstE_zero _ _ fun j _ hj => ?_
  rw [h.csl] at hj
  obtain ⟨hn, ht⟩ := h.col j (by omega)
  obtain ⟨hnb, hnd⟩ := nmF_is hf1 hf3 (i := j) (by omega)
  have hx : idx (colP t.col (t.col j).name) 0 t.cs.len = (j : Nat) := by
    rw [h.csl]
    refine idx_first _ _ _ (Nat.zero_le _) (by omega) ?_ fun k _ hk => ?_
    · unfold colP
      simp
    · unfold colP
      rw [(h.col k (by omega)).1, hn, (nmF_is hf1 hf3 (i := k) (by omega)).2 j (by omega)]
      simp
      omega
  have hne : nameE (t.col j).name (decide (at0 (idx (colP t.col (t.col j).name) 0 t.cs.len) < j)) = 0 := by
    rw [hx]
    have e2 : at0 (j : Nat) = ((j : Nat) : Int) := if_neg (by omega)
    rw [e2, hn]
    have e3 : decide (((j : Nat) : Int) < (j : Nat)) = false := by simp
    rw [e3]
    unfold nameE
    rw [if_pos hnb]
    rfl
  exact (colE1_is t j).1 hne ht
theorem keyE0 (h : MT i t fr ff) : keyE t = 0 := by
  have hf1 := h.f1
  have hf3 := h.f3
  have hf2 := h.f2
  have hcs := h.csl
  unfold keyE
  rw [if_pos (by rw [h.psl, h.prim]; exact keyB_one (Int.le_refl _) (by show (0 : Int) < _; omega)), if_neg, if_neg, if_neg]
  · have := (idx_none (p := fkP t) t.fs.len 0).2 fun j _ hj => by
      rw [h.fsl] at hj
      obtain ⟨e1, e2⟩ := h.fkl j (by omega)
      unfold fkP
      rw [e1, keyB_one (by rw [e2]; omega) (by rw [e2, hcs]; omega)]
      rfl
    omega
  · have := (idx_none (p := uqP t) t.us.len 0).2 fun j _ hj => by
      obtain ⟨e1, e2, e3⟩ := h.uql j (by omega)
      unfold uqP
      rw [e1, keyB_one (by omega) (by rw [hcs]; omega)]
      rfl
    omega
  · have := (idx_none (p := nulP t t.prim) t.ps.len 0).2 fun j _ hj => by
      unfold nulP
      rw [h.prim]
      exact h.col0.2
    omega
theorem tableE0 (h : MT i t fr ff) (g : Nat → Int × Int) (hg : ∀ k, k < t.ks.len → g k = (2, 0)) : tableE t g = 0 := by
  have hf1 := h.f1
  have hf3 := h.f3
  have hf2 := h.f2
  have hcs := h.csl
  have hus := h.usl
  have hfs := h.fsl
  have hks := h.ksl
  refine ((((tableE_is t g).2 (by omega)).2 (by omega)).2 h.colE0).2 h.keyE0 |>.trans ?_
  unfold chkE
  refine fstE_zero _ _ fun k _ hk => ?_
  have e := hg k (by omega)
  exact (chkE1_is g k).1 (by rw [e]) (by rw [e])
end MT
/-- Made tables, each by its number. -/
theorem made_all {sl : Sl} {tb : Nat → Tb} (h : SchG sl tb) : ∃ fr ff : Nat → Nat, ∀ i, i < sl.len → MT i (tb i) (fr i) (ff i) := by
  have h1 : ∀ i, i < sl.len → ∃ fr ff, MT i (tb i) fr ff := fun i hi => MT.of (h.2.2 i hi)
  obtain ⟨fr, h2⟩ := Go.Deep.choose_lt h1
  obtain ⟨ff, h3⟩ := Go.Deep.choose_lt h2
  exact ⟨fr, ff, h3⟩
section
variable {sl : Sl} {tb : Nat → Tb} {fr ff : Nat → Nat}
theorem made_idx (h3 : sl.len ≤ 3) (hm : ∀ i, i < sl.len → MT i (tb i) (fr i) (ff i)) {n : Nat} (hn : n < sl.len) : idx (nameP tb (nmB ⟨#[116]⟩ n)) 0 sl.len = (n : Nat) := by
  refine idx_first _ _ _ (Nat.zero_le _) (by omega) ?_ fun k _ hk => ?_
  · unfold nameP
    rw [(hm n hn).name]
    simp
  · unfold nameP
    rw [(hm k (by omega)).name, (nmT_is (i := k) (by omega)).2 n (by omega)]
    simp
    omega
theorem made_tgt (h3 : sl.len ≤ 3) (hm : ∀ i, i < sl.len → MT i (tb i) (fr i) (ff i)) {i k : Nat} (hi : i < sl.len) (hk : k < (tb i).fs.len) : tgtB sl tb (i : Nat) (k : Nat) = true ∧ tgN sl tb i k < i := by
  obtain ⟨g, hg, hn⟩ := (hm i hi).fkt k (by rw [← (hm i hi).fsl]; exact hk)
  have hx := made_idx h3 hm (n := g) (by omega)
  have e : ¬ ((i : Nat) : Int) < 0 := by omega
  have e1 : ¬ (sl.len : Int) ≤ ((i : Nat) : Int) := by omega
  have e2 : ¬ ((k : Nat) : Int) < 0 := by omega
  have e3 : ¬ ((tb ((i : Nat) : Int).toNat).fs.len : Int) ≤ ((k : Nat) : Int) := by
    rw [Int.toNat_natCast]
    omega
  constructor
  · unfold tgtB
    rw [if_neg e, if_neg e1, if_neg e2, if_neg e3, Int.toNat_natCast, Int.toNat_natCast, hn, hx]
    simp
  · unfold tgN tgtI
    rw [if_neg e, if_neg e1, if_neg e2, if_neg e3, Int.toNat_natCast, Int.toNat_natCast, hn, hx]
    have e2 : at0 (g : Nat) = ((g : Nat) : Int) := if_neg (by omega)
    rw [e2, Int.toNat_natCast]
    exact hg
theorem made_tgtE (h3 : sl.len ≤ 3) (hm : ∀ i, i < sl.len → MT i (tb i) (fr i) (ff i)) : tgtE sl tb = 0 := by
  unfold tgtE
  refine fstE_zero _ _ fun i _ hi => ?_
  unfold tgtE0
  refine fstE_zero _ _ fun k _ hk => ?_
  obtain ⟨hb, hg⟩ := made_tgt h3 hm (i := i) (k := k) (by omega) (by omega)
  have hM := hm i (by omega)
  have hG := hm (tgN sl tb i k) (by omega)
  have hf := hM.fsl
  obtain ⟨e1, e2⟩ := hM.fkl k (by omega)
  refine (tgtE1_is sl tb i k).2.1 hb ?_
  unfold fksB
  rw [e1, hG.psl]
  have hp : fksP (tb i) (tb (tgN sl tb i k)) ((tb i).fkn k) (tb (tgN sl tb i k)).prim 0 = false := by
    unfold fksP
    rw [e2, Int.toNat_natCast, hG.prim]
    show (!((tb i).col (1 + fr i + k)).ty == ((tb (tgN sl tb i k)).col 0).ty) = false
    rw [hM.colf k (by omega), hG.col0.1]
    rfl
  rw [idx_go hp]
  rfl
theorem made_ord (h3 : sl.len ≤ 3) (hm : ∀ i, i < sl.len → MT i (tb i) (fr i) (ff i)) : ∀ k, k ≤ sl.len → ordL sl tb k = List.range k
  | 0, _ => rfl
  | k + 1, hk => by
    have ih := made_ord h3 hm k (by omega)
    have hg : idx (good sl tb (List.range k)) 0 sl.len = (k : Nat) := by
      refine idx_first _ _ _ (Nat.zero_le _) (by omega) ?_ fun i _ hi => ?_
      · unfold good
        have e : (tgL sl tb k (tb k).fs.len).all (fun t => (List.range k).contains t) = true := by
          rw [List.all_eq_true]
          intro t ht
          unfold tgL at ht
          obtain ⟨j, hj, rfl⟩ := List.mem_map.1 ht
          have := (made_tgt h3 hm (i := k) (k := j) (by omega) (List.mem_range.1 hj)).2
          simpa using this
        rw [e]
        simp
      · unfold good
        have : (List.range k).contains i = true := by simpa using hi
        rw [this]
        rfl
    rw [ordL_go (by rw [ih, hg]; omega), ih, hg, Int.toNat_natCast, List.range_succ]
theorem made_valid (h1 : 1 ≤ sl.len) (h3 : sl.len ≤ 3) (hm : ∀ i, i < sl.len → MT i (tb i) (fr i) (ff i)) (g : Nat → Nat → Int × Int) (hg : ∀ i, i < sl.len → ∀ k, k < (tb i).ks.len → g i k = (2, 0)) : validE sl tb g = 0 := by
  refine ((((validE_is sl tb g).2 (by omega)).2 ?_).2 (made_tgtE h3 hm)).2 (by rw [made_ord h3 hm _ (Nat.le_refl _), List.length_range])
  refine fstE_zero _ _ fun i _ hi => ?_
  have hM := hm i (by omega)
  have hne : nameE (tb i).name (decide (at0 (idx (nameP tb (tb i).name) 0 sl.len) < i)) = 0 := by
    rw [hM.name, made_idx h3 hm (by omega)]
    have e2 : at0 (i : Nat) = ((i : Nat) : Int) := if_neg (by omega)
    have e3 : decide (((i : Nat) : Int) < (i : Nat)) = false := by simp
    rw [e2, e3]
    unfold nameE
    rw [if_pos (nmT_is (i := i) (by omega)).1]
    rfl
  rw [(vtE_is sl tb g i).1 hne]
  exact hM.tableE0 _ fun k hk => hg i (by omega) k hk
end
end Go.Proofs.YtonlmhehddbhoaaDoor
