/-
  Both sides' Valid of a schema whose checks are small.
-/
import Derived.Test.YtdmhmlnfoocnjaaGreatDoorK46
import Derived.Test.YtdmhmlnfoocnjaaGreatDoorK52
import Derived.Test.YtdmhmlnfoocnjaaGreatDoorK51
import Derived.Test.YtdmhmlnfoocnjaaGreatDoorK44
import Derived.Test.YtdmhmlnfoocnjaaGreatDoorK27
import Derived.Deep.OwnRows
set_option linter.unusedVariables false
namespace Go.Proofs.YtdmhmlnfoocnjaaGreatDoor
open Go Go.RowKit Go.Deep
theorem numIn_sl {w : World} {s : Sl} {l : List Int} (hl : l.length = s.len) (h : SlAt w 1 s (intC fun i => l.getD i 0)) : NumIn w s.a s.len s.cap l := by
  refine ⟨hl, h.1, h.2.1, ?_⟩
  rcases Nat.eq_zero_or_pos s.len with h0 | h0
  · exact .inl h0
  · right
    obtain ⟨b, off, ha, hb, _⟩ := h.2.2.2 0 h0
    refine ⟨b, off, ha, hb, fun i hi => ?_⟩
    obtain ⟨b', off', ha', _, hc⟩ := h.2.2.2 i hi
    rw [ha] at ha'
    simp only [Option.some.injEq, Addr.mk.injEq, and_true] at ha'
    obtain ⟨rfl, rfl⟩ := ha'
    have := hc 0 (by omega)
    simpa [intC] using this
def CkS (t : Tb) : Prop := ∀ e ∈ t.checks, sizE e ≤ 1000000 ∧ depE e ≤ 1000
def gT (tb : Nat → Tb) (i k : Nat) : Int × Int := tyT (tyL (tb i).col (tb i).cs.len) ((tb i).checks.getD k Ex.z)
theorem text_of {w : World} {ok : Nat → Prop} {a : Option Addr} {len cap : Nat} {l : List Ex} (h : Kids w ok a len cap l) {i : Nat} (hi : i < l.length) : (l.getD i Ex.z).text.size ≤ maxLen := by
  cases h with
  | mk a len cap l ad lens caps hl hc hm hn hcell hf h => exact (hf i (by omega)).2.2.2.1
theorem chkT_of {w : World} {t : Tb} (hT : TbAt w t) (hc : CkS t) (ho : OpsTab w) : ChkT w t fun k => tyT (tyL t.col t.cs.len) (t.checks.getD k Ex.z) := by
  intro k hk W s a len cap hW hsl hs hkk
  have hm : t.checks.getD k Ex.z ∈ t.checks := getD_mem hk
  exact TypeG_calls (tyL t.col t.cs.len) (t.checks.getD k Ex.z) s.a s.len s.cap a len cap _ W (numIn_sl (by rw [tyL_len, hsl]) hs) hkk (text_of hT.kids hk) (hc _ hm).1 (hc _ hm).2 (ho.later hW)
theorem rchkT_of {w : World} {t : Tb} (hT : TbAt w t) (hc : CkS t) : rChkT w t fun k => tyT (tyL t.col t.cs.len) (t.checks.getD k Ex.z) := by
  intro k hk W s a len cap hW hsl hs hkk
  have hm : t.checks.getD k Ex.z ∈ t.checks := getD_mem hk
  exact rTypeG_calls (tyL t.col t.cs.len) (t.checks.getD k Ex.z) s.a s.len s.cap a len cap _ W (numIn_sl (by rw [tyL_len, hsl]) hs) hkk (text_of hT.kids hk) (hc _ hm).1 (hc _ hm).2
def Both (w : World) (a : Option Addr) (n c : Nat) : Prop := ∃ v : Int, (∀ W, Below w.heap.size w W → Calls Tryz.prog 27 #[.agg #[.slice a n c]] W fun r w' => r = .returned (.int .i64 v) ∧ Cls W w') ∧
  ∀ W, Below w.heap.size w W → Calls Tryz.prog 17 #[.agg #[.slice a n c]] W fun r w' => r = .returned (.int .i64 v) ∧ Cls W w'
theorem cks_made {i : Nat} {t : Tb} (h : MadeTb i t) : CkS t := by
  obtain ⟨fr, ff, ty, nl, fnl, tgt, ul, fl, ck, s1, s2, s3, s4, pb, rfl, _, _, _, _, _, _, _, _, _, _, _, _, _, hck⟩ := h
  intro e he
  have := (hck e he).bounds
  have h5 : 5 ^ (2 + 1) = 125 := by decide
  omega
end Go.Proofs.YtdmhmlnfoocnjaaGreatDoor
set_option linter.unusedVariables false
namespace Go.Proofs.YtdmhmlnfoocnjaaGreatDoor
open Go Go.RowKit Go.Deep
theorem ExprOf.use {d B : Nat} (h : ExprOf d B) (T m : Nat) (ty : List Int) (k : Int) (a : Option Addr) (len cap : Nat) (w : World) (dd : Int) (hd : dd = (d : Nat)) (h1 : TapeAt T m w) (h2 : IntsAt T w a len cap ty) (h3 : IsTy k) (h4 : m + B ≤ 2 ^ 60) (h5 : len ≤ 1000) :
    Calls Tryz.prog 24 #[.pointer (some ⟨T, 0, none⟩), .slice a len cap, .int .i64 k, .int .i64 dd] w fun r w' => MadeBy T (m + B) d ty k w r w' := by
  subst hd; exact h.call T m ty k a len cap w h1 h2 h3 h4 h5
theorem OpsTab.tp {T : Nat} {w w' : World} (h : OpsTab w) (hb : Tp T w w') (hT : 0 ≠ T) : OpsTab w' := by
  refine ⟨Nat.lt_of_lt_of_le h.1 hb.size, fun i hi => ?_⟩
  obtain ⟨h0, h1, h2, h3, h4⟩ := h.2 i hi
  have key : ∀ o, w'.cell? ⟨0, o, none⟩ = w.cell? ⟨0, o, none⟩ := fun o => hb.cell o h.1 hT
  exact ⟨by rw [key]; exact h0, by rw [key]; exact h1, by rw [key]; exact h2, by rw [key]; exact h3, by rw [key]; exact h4⟩
def NumsAt (w : World) (a : Option Addr) (len : Nat) : Prop := len ≤ maxLen ∧ (len = 0 ∨ ∃ b off, a = some ⟨b, off, none⟩ ∧ b < w.heap.size ∧ ∀ i, i < len → ∃ n : Int, (Lit.int .i64 n).wf = true ∧ w.cell? ⟨b, off + i, none⟩ = some (.int .i64 n))
theorem tape_new {w : World} {a : Option Addr} {len cap : Nat} (h : NumsAt w a len) : TapeAt w.heap.size 0 (w.alloc (.cells #[.slice a len cap, .int .i64 0] 25)) := by
  refine ⟨a, len, cap, 0, heap_alloc_new w _, Nat.le_refl _, h.1, h.2.imp id ?_⟩
  rintro ⟨b, off, rfl, hb, hc⟩
  refine ⟨b, off, rfl, hb, fun i hi => ?_⟩
  obtain ⟨n, hn, hq⟩ := hc i hi
  exact ⟨n, hn, by rw [World.cell?_of_block (w := w) (Below.heap_alloc _ _ _ hb)]; exact hq⟩
end Go.Proofs.YtdmhmlnfoocnjaaGreatDoor
set_option linter.unusedVariables false
namespace Go.Proofs.YtdmhmlnfoocnjaaGreatDoor
open Go Go.RowKit Go.Deep
theorem catN_nil {α : Type} {g : Nat → List α} (h : ∀ i, g i = []) : ∀ n, catN g n = []
  | 0 => rfl
  | n + 1 => by rw [catN_next, catN_nil h n, h n]; rfl
theorem tabO_empty (sl : Sl) (tb : Nat → Tb) (t : Nat → Sl) (r : Nat → Nat → Sl) (f : Nat → Nat → Nat → Vl) (i : Nat) (h : (t i).len = 0) : tabO sl tb t r f i = [] := by
  have h1 := tabO_is sl tb t r f i
  cases hf : fitT tb t r f i
  · rw [h1.2 hf, h]; rfl
  · have e1 : keysO (tb i) (f i) 0 = [] := by
      unfold keysO
      rw [show repsO 4 0 (tb i).prim (tb i).ps.len (f i) 0 = [] from rfl, catN_nil (fun k => show unqG (tb i) (f i) 0 k = [] from rfl)]
      rfl
    have e2 : chksO (tb i) (r i) (f i) 0 = [] := catN_nil (fun k => show chkG (tb i) (r i) (f i) 0 k = [] from rfl) _
    have e3 : forsO sl tb t r f i = [] := catN_nil (fun k => by
      have h2 := forG_len sl tb t r f i k
      exact List.length_eq_zero_iff.1 (by omega)) _
    rw [h1.1 hf, h, e1, e2, e3]
    rfl
theorem allO_empty (sl : Sl) (tb : Nat → Tb) (t : Nat → Sl) (r : Nat → Nat → Sl) (f : Nat → Nat → Nat → Vl) (h : ∀ i, (t i).len = 0) : allO sl tb t r f = [] := catN_nil (fun i => by unfold tabG; rw [tabO_empty sl tb t r f i (h i)]; rfl) _
theorem lst_empty (sl : Sl) (tb : Nat → Tb) (t : Nat → Sl) (r : Nat → Nat → Sl) (f : Nat → Nat → Nat → Vl) (v : Int) (m : Nat) (h : ∀ i, (t i).len = 0) : lstO sl tb t r f v m = [] := by
  have h1 := lstO_is sl tb t r f v m
  by_cases e : errO sl v m = 0
  · rw [h1.1 e, allO_empty sl tb t r f h]
  · exact h1.2 e
theorem ins_empty {w : World} {s : Sl} (h : SlAt w 1 s (fun _ => [.slice none 0 0])) : InsAt w s (fun _ => Sl.z) (fun _ _ => Sl.z) (fun _ _ _ => ⟨0, 0, ByteArray.empty⟩) := by
  refine ⟨h, fun i hi => ⟨⟨Nat.le_refl _, Nat.zero_le _, fun _ => ⟨rfl, rfl⟩, fun i hi => absurd hi (Nat.not_lt_zero _)⟩, fun k hk => absurd hk (Nat.not_lt_zero _), fun k hk => absurd hk (Nat.not_lt_zero _), fun k hk => absurd hk (Nat.not_lt_zero _)⟩⟩
structure UseE (sl : Sl) (tb : Nat → Tb) (w : World) (v : Int) : Prop where
  ref : ∀ W, Below w.heap.size w W → Calls Tryz.prog 17 #[.agg #[.slice sl.a sl.len sl.cap]] W fun r w' => r = .returned (.int .i64 v) ∧ Cls W w'
  val : ∀ (s : Sl) W, Below w.heap.size w W → SlAt W 1 s (fun _ => [.slice none 0 0]) → Calls Tryz.prog 13 #[.agg #[.slice sl.a sl.len sl.cap], .agg #[.slice s.a s.len s.cap]] W fun r w' => r = .returned (.bool (decide (v = 0) && decide (s.len = sl.len))) ∧ Cls W w'
  l1 : 1 ≤ sl.len
  l3 : sl.len ≤ 3
theorem useE_of {sl : Sl} {tb : Nat → Tb} {w : World} (h : SchG sl tb) (hT : TabsAt w sl tb) (ho : OpsTab w) : ∃ v, UseE sl tb w v := by
  have hc : ∀ j, j < sl.len → CkS (tb j) := fun j hj => cks_made (h.2.2 j hj)
  refine ⟨validE sl tb (gT tb), fun W hW => rsValid_calls sl tb (gT tb) W (hT.later hW) fun i hi => rchkT_of ((hT.2 i hi).later hW) (hc i hi), fun s W hW hs => ?_, h.1, h.2.1⟩
  have h1 := iValid_calls sl tb (validE sl tb (gT tb)) s (fun _ => Sl.z) (fun _ _ => Sl.z) (fun _ _ _ => ⟨0, 0, ByteArray.empty⟩) W (hT.later hW) (ins_empty hs) (ho.later hW) (fun W2 hW2 => sValid_calls sl tb (gT tb) W2 ((hT.later hW).later hW2) fun i hi => chkT_of (((hT.2 i hi).later hW).later hW2) (hc i hi) ((ho.later hW).later hW2)) (fun e => valid_ok e) (fun k hk => Nat.zero_le _)
  rw [lst_empty _ _ _ _ _ _ _ (fun i => rfl)] at h1
  have e : ((errO sl (validE sl tb (gT tb)) s.len == 0) && (([] : List Vio).length == 0)) = (decide (validE sl tb (gT tb) = 0) && decide (s.len = sl.len)) := by
    have h2 := errO_is sl (validE sl tb (gT tb)) s.len
    by_cases a : validE sl tb (gT tb) = 0
    · by_cases b : s.len = sl.len
      · rw [h2.2.2 a b]; simp [a, b]
      · rw [h2.2.1 a b]; simp [b]
    · rw [h2.1 a]; simp [a]
  rw [e] at h1
  exact h1
theorem infoR2 : (Tryz.prog.info? 46).map (fun i => (i.zero, i.size, i.bytes)) = some (some (.slice none 0 0), 1, 24) := by kernel_rfl
theorem madeS (w : World) (n : Nat) (hn : n ≤ maxLen) (v : Value) (e : TypeId) : SlAt (w.alloc (.cells (madeCells #[v] n) e)) 1 ⟨some ⟨w.heap.size, 0, none⟩, n, n⟩ (fun _ => [v]) := by
  refine ⟨Nat.le_refl _, hn, (fun h => by cases h), fun i hi => ⟨w.heap.size, 0, rfl, by simp, fun j hj => ?_⟩⟩
  obtain rfl : j = 0 := by omega
  rw [cell_of_row _ _ _ _ _ (0, 0) (heap_alloc_new w _)]
  have h := toList_madeCells_one v n
  have h2 : (madeCells #[v] n)[i]? = (madeCells #[v] n).toList[i]? := by simp
  have hi2 : i < n := hi
  simp only [Nat.zero_add, Nat.mul_one, Nat.add_zero, List.getElem?_cons_zero]
  rw [h2, h]
  simp [hi2]
set_option maxHeartbeats 8000000 in
set_option maxRecDepth 20000 in
theorem integrityEmpty_walk (a : Option Addr) (len cap : Nat) (w : World) (hn : NumsAt w a len) (ho : OpsTab w) :
    Calls Tryz.prog 5 #[.slice a len cap] w fun r w' => r = .returned (.bool true) ∧ Below w.heap.size w w' := by
  have H := Lib.hid (tape_new (cap := cap) hn)
  have HO := Lib.hid ho
  have HBT : Hid (Below w.heap.size w (w.alloc (.cells #[.slice a len cap, .int .i64 0] 25))) := Lib.hid (by repeat first|with_reducible exact Below.refl _ _|with_reducible refine Below.setCell ?_ (by first|omega|(simp;done)|(simp;omega)) _|with_reducible refine Below.alloc ?_ (by first|omega|(simp;done)|(simp;omega)) _|with_reducible refine Below.drew ?_|with_reducible refine Ext.on _ ?_ (by first|omega|(simp;done)|(simp;omega)))
  clear hn ho
  go_enter Tryz.func5, Tryz.ntmps5
  go_wp2_with (first | (go_at_call 8; ((with_reducible refine (Schema_calls w.heap.size 0 _ H.out (by omega)).mono ?_); rintro r w1 hq; obtain ⟨⟨sa, sn, sc⟩, tb, he, hg, hT, z, rfl⟩ := hq; have he2 : r = .returned (.agg #[.slice sa sn sc]) := he; clear he; subst he2; obtain ⟨v, hU⟩ := useE_of hg hT ((HO.out.later HBT.out).tp z.tp (by have := HO.out.1; omega)); have HU := Lib.hid hU; clear hU; have zs := z.size; simp at zs; clear hg hT; have hl1 := HU.out.l1; have hl3 := HU.out.l3; simp only at hl1 hl3; have hmk := fun W => run_make_row' (P := Tryz.prog) 30 46 (.slice none 0 0) 24 Tryz.underlying30 infoR2 rfl .i64 .i64 sn (by omega) (by omega) W)))
  have HZS := Lib.hid zs
  have HZW : Hid (Below z.val.heap.size z.val (((z.val.alloc (.cells #[.slice sa sn sc] 28)).alloc (.cells (madeCells #[.slice none 0 0] sn) 46)).alloc (.cells #[.slice (some ⟨z.val.heap.size + 1, 0, none⟩) sn sn] 32))) := Lib.hid (by repeat first|with_reducible exact Below.refl _ _|with_reducible refine Below.setCell ?_ (by first|omega|(simp;done)|(simp;omega)) _|with_reducible refine Below.alloc ?_ (by first|omega|(simp;done)|(simp;omega)) _|with_reducible refine Below.drew ?_|with_reducible refine Ext.on _ ?_ (by first|omega|(simp;done)|(simp;omega)))
  have HBW : Hid (Below w.heap.size w (((z.val.alloc (.cells #[.slice sa sn sc] 28)).alloc (.cells (madeCells #[.slice none 0 0] sn) 46)).alloc (.cells #[.slice (some ⟨z.val.heap.size + 1, 0, none⟩) sn sn] 32))) := Lib.hid ((HBT.out.trans (z.tp.toBelow (by simp) (Nat.le_refl _))).trans (HZW.out.mono (by omega)))
  have HMS : Hid (SlAt (((z.val.alloc (.cells #[.slice sa sn sc] 28)).alloc (.cells (madeCells #[.slice none 0 0] sn) 46)).alloc (.cells #[.slice (some ⟨z.val.heap.size + 1, 0, none⟩) sn sn] 32)) 1 ⟨some ⟨z.val.heap.size + 1, 0, none⟩, sn, sn⟩ (fun _ => [.slice none 0 0])) := Lib.hid (by
    have h1 := madeS (z.val.alloc (.cells #[.slice sa sn sc] 28)) sn (by unfold maxLen; omega) (.slice none 0 0) 46
    have e : (z.val.alloc (.cells #[.slice sa sn sc] 28)).heap.size = z.val.heap.size + 1 := by simp
    rw [e] at h1
    exact h1.later ((Below.refl _ _).alloc (Nat.le_refl _) _))
  have HS1 : Hid ((((z.val.alloc (.cells #[.slice sa sn sc] 28)).alloc (.cells (madeCells #[.slice none 0 0] sn) 46)).alloc (.cells #[.slice (some ⟨z.val.heap.size + 1, 0, none⟩) sn sn] 32)).heap[z.val.heap.size]? = some (.cells #[.slice sa sn sc] 28)) := Lib.hid ((Below.heap_alloc _ _ _ (by simp; omega)).trans ((Below.heap_alloc _ _ _ (by simp)).trans (heap_alloc_new z.val _)))
  have HS2 : Hid ((((z.val.alloc (.cells #[.slice sa sn sc] 28)).alloc (.cells (madeCells #[.slice none 0 0] sn) 46)).alloc (.cells #[.slice (some ⟨z.val.heap.size + 1, 0, none⟩) sn sn] 32)).heap[z.val.heap.size + 1 + 1]? = some (.cells #[.slice (some ⟨z.val.heap.size + 1, 0, none⟩) sn sn] 32)) := Lib.hid (by
    have h1 := heap_alloc_new ((z.val.alloc (.cells #[.slice sa sn sc] 28)).alloc (.cells (madeCells #[.slice none 0 0] sn) 46)) (.cells #[.slice (some ⟨z.val.heap.size + 1, 0, none⟩) sn sn] 32)
    have e : ((z.val.alloc (.cells #[.slice sa sn sc] 28)).alloc (.cells (madeCells #[.slice none 0 0] sn) 46)).heap.size = z.val.heap.size + 1 + 1 := by simp
    rw [e] at h1
    exact h1)
  have hsz : (((z.val.alloc (.cells #[.slice sa sn sc] 28)).alloc (.cells (madeCells #[.slice none 0 0] sn) 46)).alloc (.cells #[.slice (some ⟨z.val.heap.size + 1, 0, none⟩) sn sn] 32)).heap.size = z.val.heap.size + 3 := by simp
  have C1 : Hid (∀ W, Below z.val.heap.size z.val W → Calls Tryz.prog 17 #[.agg #[.slice sa sn sc]] W fun r w' => r = .returned (.int .i64 v) ∧ Cls W w') := Lib.hid fun W hW => HU.out.ref W hW
  have C3 : Hid (∀ W, Below z.val.heap.size z.val W → Calls Tryz.prog 13 #[.agg #[.slice sa sn sc], .agg #[.slice none 0 0]] W fun r w' => r = .returned (.bool false) ∧ Cls W w') := Lib.hid fun W hW => by
    have h1 := HU.out.val Sl.z W hW ⟨Nat.le_refl _, Nat.zero_le _, (fun _ => ⟨rfl, rfl⟩), fun i hi => absurd hi (Nat.not_lt_zero _)⟩
    have e : decide (Sl.z.len = sn) = false := decide_eq_false (by show ¬ 0 = sn; omega)
    simp only [e, Bool.and_false] at h1
    exact h1
  have C2 : Hid (∀ W, Below z.val.heap.size z.val W → SlAt W 1 ⟨some ⟨z.val.heap.size + 1, 0, none⟩, sn, sn⟩ (fun _ => [.slice none 0 0]) → Calls Tryz.prog 13 #[.agg #[.slice sa sn sc], .agg #[.slice (some ⟨z.val.heap.size + 1, 0, none⟩) sn sn]] W fun r w' => r = .returned (.bool (decide (v = 0))) ∧ Cls W w') := Lib.hid fun W hW hs => by
    have h1 := HU.out.val ⟨some ⟨z.val.heap.size + 1, 0, none⟩, sn, sn⟩ W hW hs
    simp only [decide_true, Bool.and_true] at h1
    exact h1
  clear hmk HU H HO HBT zs
  generalize (((z.val.alloc (.cells #[.slice sa sn sc] 28)).alloc (.cells (madeCells #[.slice none 0 0] sn) 46)).alloc (.cells #[.slice (some ⟨z.val.heap.size + 1, 0, none⟩) sn sn] 32)) = W2 at HZW HBW HMS HS1 HS2 hsz ⊢
  generalize z.val = Z at HZW HMS HS1 HS2 hsz C1 C2 C3 HZS ⊢
  have hw2 := HBW.out.size
  have hzs := HZS.out
  obtain ⟨bs1, _, k1⟩ := one_z HS1.out
  obtain ⟨bs2, _, k2⟩ := one_z HS2.out
  by_cases hv : v = 0
  · have hd : decide (v = 0) = true := by simp [hv]
    rw [hd] at C2
    clear hd
    subst hv
    go_wp2_with (first | (go_at_call 17; ((with_reducible refine (C1.out _ HZW.out).mono ?_); rintro r _ ⟨rfl, x, rfl⟩; obtain ⟨p1, p2, p3, p4, p5⟩ := x.lts bs1; obtain ⟨q1, q2, q3, q4, q5⟩ := x.lts bs2; have xs := x.size; have HZX : Hid (Below Z.heap.size Z x.val) := Lib.hid (HZW.out.trans (x.below.mono (by omega))); have HMX := Lib.hid (HMS.out.later x.below))) | (go_at_call 13; first | ((with_reducible refine (C2.out _ HZX.out HMX.out).mono ?_); rintro r _ ⟨rfl, y, rfl⟩; obtain ⟨g1, g2, g3, g4, g5⟩ := y.lts p1; obtain ⟨g6, g7, g8, g9, g10⟩ := y.lts q1; have ys := y.size; have HBY : Hid (Below w.heap.size w y.val) := Lib.hid (HBW.out.trans ((x.below.trans (y.below.mono xs)).mono hw2)); have HZY : Hid (Below Z.heap.size Z y.val) := Lib.hid (HZX.out.trans (y.below.mono (by omega)))) | ((with_reducible refine (C3.out _ (HZY.out.trans ((show Below y.val.heap.size y.val _ from by repeat first|with_reducible exact Below.refl _ _|with_reducible refine Below.setCell ?_ (by first|omega|(simp;done)|(simp;omega)) _|with_reducible refine Below.alloc ?_ (by first|omega|(simp;done)|(simp;omega)) _|with_reducible refine Below.drew ?_|with_reducible refine Ext.on _ ?_ (by first|omega|(simp;done)|(simp;omega))).mono (by omega)))).mono ?_); rintro r _ ⟨rfl, u, rfl⟩)))
    go_ret
    refine ⟨rfl, ?_⟩
    have hwy := HBY.out.size
    refine Ext.on u (HBY.out.trans (Below.mono (B := y.val.heap.size) ?_ hwy)) ?_
    · repeat first|with_reducible exact Below.refl _ _|with_reducible refine Below.setCell ?_ (by first|omega|(simp;done)|(simp;omega)) _|with_reducible refine Below.alloc ?_ (by first|omega|(simp;done)|(simp;omega)) _|with_reducible refine Below.drew ?_|with_reducible refine Ext.on _ ?_ (by first|omega|(simp;done)|(simp;omega))
    · first | omega | (simp; omega)

  · have hd : decide (v = 0) = false := by simp [hv]
    rw [hd] at C2
    clear hd
    go_wp2_with (first | (go_at_call 17; ((with_reducible refine (C1.out _ HZW.out).mono ?_); rintro r _ ⟨rfl, x, rfl⟩; obtain ⟨p1, p2, p3, p4, p5⟩ := x.lts bs1; obtain ⟨q1, q2, q3, q4, q5⟩ := x.lts bs2; have xs := x.size; have HZX : Hid (Below Z.heap.size Z x.val) := Lib.hid (HZW.out.trans (x.below.mono (by omega))); have HMX := Lib.hid (HMS.out.later x.below))) | (go_at_call 13; ((with_reducible refine (C2.out _ HZX.out HMX.out).mono ?_); rintro r _ ⟨rfl, y, rfl⟩)))
    go_ret
    exact ⟨rfl, HBW.out.trans ((x.below.trans (y.below.mono x.size)).mono hw2)⟩
end Go.Proofs.YtdmhmlnfoocnjaaGreatDoor
