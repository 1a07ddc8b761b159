/-
  The first error of a table by itself.
-/
import Derived.Test.YtdmhmlnfoocnjaaGreatDoorK28
import Derived.Test.YtdmhmlnfoocnjaaGreatDoorK25
import Derived.Test.YtdmhmlnfoocnjaaGreatDoorK34
set_option linter.unusedVariables false
namespace Go.Proofs.YtdmhmlnfoocnjaaGreatDoor
open Go Go.RowKit Go.Deep
theorem idx_le {p : Nat → Bool} : ∀ (m j n : Nat), j ≤ n → n < j + m → p n = true → 0 ≤ idx p j m ∧ idx p j m ≤ n
  | 0, j, n, h1, h2, _ => by omega
  | m + 1, j, n, h1, h2, h3 => by
    by_cases e : p j = true
    · rw [idx_stop e]
      omega
    · have e' : p j = false := by simpa using e
      have hn : j ≠ n := fun h => by rw [h, h3] at e'; cases e'
      rw [idx_go e']
      exact idx_le m (j + 1) n (by omega) (by omega) h3
theorem colE1_ref (t : Tb) (i : Nat) (hi : i < t.cs.len) : 0 ≤ at0 (idx (colP t.col (t.col i).name) 0 t.cs.len) ∧ (nameB (t.col i).name = false → colE1 t i = 3) ∧ (nameB (t.col i).name = true → (at0 (idx (colP t.col (t.col i).name) 0 t.cs.len) ≠ i → colE1 t i = 5) ∧ (at0 (idx (colP t.col (t.col i).name) 0 t.cs.len) = i → ((t.col i).ty < 1 ∨ 3 < (t.col i).ty → colE1 t i = 4) ∧ (¬ ((t.col i).ty < 1 ∨ 3 < (t.col i).ty) → colE1 t i = 0))) := by
  have hle := idx_le (p := colP t.col (t.col i).name) t.cs.len 0 i (Nat.zero_le _) (by omega) (by unfold colP; simp)
  have ha : at0 (idx (colP t.col (t.col i).name) 0 t.cs.len) = idx (colP t.col (t.col i).name) 0 t.cs.len := if_neg (by omega)
  obtain ⟨c1, c2, c3⟩ := colE1_is t i
  rw [ha] at c1 c2 c3 ⊢
  generalize idx (colP t.col (t.col i).name) 0 t.cs.len = q at *
  refine ⟨hle.1, fun h => ?_, fun h => ⟨fun h1 => ?_, fun h1 => ⟨fun h2 => ?_, fun h2 => ?_⟩⟩⟩
  · have e : ∀ b, nameE (t.col i).name b = 3 := fun b => by unfold nameE; rw [h, if_neg Bool.false_ne_true]
    rw [c3 (by rw [e]; decide), e]
  · have e : nameE (t.col i).name (decide (q < i)) = 5 := by unfold nameE; rw [h, if_pos rfl, if_pos (by simp; omega)]
    rw [c3 (by rw [e]; decide), e]
  · have e : nameE (t.col i).name (decide (q < i)) = 0 := by unfold nameE; rw [h, if_pos rfl, if_neg (by simp; omega)]
    exact c2 e (by omega)
  · have e : nameE (t.col i).name (decide (q < i)) = 0 := by unfold nameE; rw [h, if_pos rfl, if_neg (by simp; omega)]
    exact c1 e (by omega)
def rChkT (w : World) (t : Tb) (g : Nat → Int × Int) : Prop :=
  ∀ i, i < t.checks.length → ∀ (W : World) (s : Sl) (a : Option Addr) (len cap : Nat), Below w.heap.size w W → s.len = t.cs.len → SlAt W 1 s (intC fun i => (tyL t.col t.cs.len).getD i 0) → Kids W (fun _ => True) a len cap (t.checks.getD i Ex.z).kids →
    Calls Tryz.prog 66 #[.slice s.a s.len s.cap, .agg #[.int .i64 (t.checks.getD i Ex.z).op, .int .i64 (t.checks.getD i Ex.z).ty, .int .i64 (t.checks.getD i Ex.z).num, .string (t.checks.getD i Ex.z).text, .int .i64 (t.checks.getD i Ex.z).col, .slice a len cap]] W fun r w' => r = .returned (.tuple #[.int .i64 (g i).1, .int .i64 (g i).2]) ∧ Cls W w'
theorem rChkT.later {w w' : World} {t : Tb} {g : Nat → Int × Int} (h : rChkT w t g) (hb : Below w.heap.size w w') : rChkT w' t g := fun i hi W s a len cap hW h1 h2 h3 => h i hi W s a len cap (hb.trans (hW.mono hb.size)) h1 h2 h3
set_option maxHeartbeats 32000000 in
set_option maxRecDepth 20000 in
theorem table_calls (t : Tb) (g : Nat → Int × Int) (w : World) (h : TbAt w t) (hg : rChkT w t g) :
    Calls Tryz.prog 36 #[.agg #[.string t.name, .slice t.cs.a t.cs.len t.cs.cap, .slice t.ps.a t.ps.len t.ps.cap, .slice t.us.a t.us.len t.us.cap, .slice t.fs.a t.fs.len t.fs.cap, .slice t.ks.a t.ks.len t.ks.cap]] w fun r w' => r = .returned (.int .i64 (tableE t g)) ∧ Cls w w' := by
  have hcl := h.cols.1
  have hcm := h.cols.2.1
  have hul := h.uqs.1
  have hum := h.uqs.2.1
  have hfl := h.fks.1
  have hfm := h.fks.2.1
  have hpl := h.prim.1
  have hpm := h.prim.2.1
  have hkl := h.kids.le
  have hkm := h.kids.max
  have hkn := h.kids.len_eq
  have hcx : t.cs.len ≤ maxLen := Nat.le_trans hcl hcm
  unfold maxLen at hcm hum hfm hpm hkm
  have HN : Hid (∀ (s : ByteArray) (W : World), s.size ≤ maxLen → Calls Tryz.prog 34 #[.string s] W fun r w' => r = .returned (.bool (nameB s)) ∧ Cls W w') := Lib.hid fun s W hs => rName_calls s W hs
  have HCO : Hid (∀ (s : ByteArray) (W : World), Below w.heap.size w W → Calls Tryz.prog 64 #[.agg #[.string t.name, .slice t.cs.a t.cs.len t.cs.cap, .slice t.ps.a t.ps.len t.ps.cap, .slice t.us.a t.us.len t.us.cap, .slice t.fs.a t.fs.len t.fs.cap, .slice t.ks.a t.ks.len t.ks.cap], .string s] W fun r w' => r = .returned (.tuple #[.int .i64 (at0 (idx (colP t.col s) 0 t.cs.len)), .bool (decide (0 ≤ idx (colP t.col s) 0 t.cs.len))]) ∧ Cls W w') := Lib.hid fun s W hW => rColumn_calls t s W (h.later hW)
  have HCL : Hid (∀ i, i < t.cs.len → ∃ b off, t.cs.a = some ⟨b, off, none⟩ ∧ b < w.heap.size ∧ (∀ j, j < 3 → w.cell? ⟨b, off + i * 3 + j, none⟩ = ((t.col i).cells)[j]?) ∧ (t.col i).name.size ≤ maxLen) := Lib.hid fun i hi => by
    obtain ⟨b, off, ha, hb, hc⟩ := h.cols.2.2.2 i hi
    exact ⟨b, off, ha, hb, hc, (h.colf i hi).1⟩
  have HCE := Lib.hid (colE1_ref t)
  have CP : Hid (∀ W, Below w.heap.size w W → Calls Tryz.prog 65 #[.agg #[.string t.name, .slice t.cs.a t.cs.len t.cs.cap, .slice t.ps.a t.ps.len t.ps.cap, .slice t.us.a t.us.len t.us.cap, .slice t.fs.a t.fs.len t.fs.cap, .slice t.ks.a t.ks.len t.ks.cap], .slice t.ps.a t.ps.len t.ps.cap] W fun r w' => r = .returned (.bool (keyB t.cs.len t.prim t.ps.len)) ∧ Cls W w') := Lib.hid fun W hW => listed_calls t t.ps t.prim W (h.prim.later hW) hcx
  have HPI : Hid (keyB t.cs.len t.prim t.ps.len = true → ∀ i, i < t.ps.len → 0 ≤ t.prim i ∧ t.prim i < t.cs.len) := Lib.hid fun hk => keyB_in hk
  have HPC : Hid (∀ i, i < t.ps.len → ∃ b off, t.ps.a = some ⟨b, off, none⟩ ∧ b < w.heap.size ∧ w.cell? ⟨b, off + i, none⟩ = some (.int .i64 (t.prim i))) := Lib.hid fun i hi => by
    obtain ⟨b, off, ha, hb, hc⟩ := h.prim.2.2.2 i hi
    have := hc 0 (by omega)
    exact ⟨b, off, ha, hb, by simpa [intC] using this⟩
  have CU : Hid (∀ i, i < t.us.len → ∀ W, Below w.heap.size w W → Calls Tryz.prog 65 #[.agg #[.string t.name, .slice t.cs.a t.cs.len t.cs.cap, .slice t.ps.a t.ps.len t.ps.cap, .slice t.us.a t.us.len t.us.cap, .slice t.fs.a t.fs.len t.fs.cap, .slice t.ks.a t.ks.len t.ks.cap], .slice (t.uq i).a (t.uq i).len (t.uq i).cap] W fun r w' => r = .returned (.bool (keyB t.cs.len (t.uqn i) (t.uq i).len)) ∧ Cls W w') := Lib.hid fun i hi W hW => listed_calls t (t.uq i) (t.uqn i) W ((h.uqn i hi).later hW) hcx
  have CF : Hid (∀ i, i < t.fs.len → ∀ W, Below w.heap.size w W → Calls Tryz.prog 65 #[.agg #[.string t.name, .slice t.cs.a t.cs.len t.cs.cap, .slice t.ps.a t.ps.len t.ps.cap, .slice t.us.a t.us.len t.us.cap, .slice t.fs.a t.fs.len t.fs.cap, .slice t.ks.a t.ks.len t.ks.cap], .slice (t.fk i).a (t.fk i).len (t.fk i).cap] W fun r w' => r = .returned (.bool (keyB t.cs.len (t.fkn i) (t.fk i).len)) ∧ Cls W w') := Lib.hid fun i hi W hW => listed_calls t (t.fk i) (t.fkn i) W ((h.fkn i hi).1.later hW) hcx
  have HUC := Lib.hid h.uqs.2.2.2
  have HFC := Lib.hid h.fks.2.2.2
  have CT : Hid (t.cs.len ≤ 1000 → ∀ W, Below w.heap.size w W → Calls Tryz.prog 25 #[.agg #[.string t.name, .slice t.cs.a t.cs.len t.cs.cap, .slice t.ps.a t.ps.len t.ps.cap, .slice t.us.a t.us.len t.us.cap, .slice t.fs.a t.fs.len t.fs.cap, .slice t.ks.a t.ks.len t.ks.cap]] W fun r w' => ∃ s : Sl, r = .returned s.v ∧ s.len = t.cs.len ∧ SlAt w' 1 s (intC fun i => (tyL t.col t.cs.len).getD i 0) ∧ Cls W w') := Lib.hid fun hc W hW => rTypes_calls t W (h.later hW) hc
  have CG := Lib.hid hg
  have HK := Lib.hid h.kids
  have HCK := Lib.hid (chkE1_is g)
  have HPU : Hid (∀ i, uqP t i = !keyB t.cs.len (t.uqn i) (t.uq i).len) := Lib.hid fun i => rfl
  have HPF : Hid (∀ i, fkP t i = !keyB t.cs.len (t.fkn i) (t.fk i).len) := Lib.hid fun i => rfl
  have HPN : Hid (∀ i, nulP t t.prim i = (t.col (t.prim i).toNat).null) := Lib.hid fun i => rfl
  have HI := Lib.hid (tableE_is t g)
  have HE0 : Hid (colE t = fstE (colE1 t) 0 t.cs.len) := Lib.hid rfl
  have HK0 : Hid (keyE t = if keyB t.cs.len t.prim t.ps.len = true then (if 0 ≤ idx (nulP t t.prim) 0 t.ps.len then 4 else if 0 ≤ idx (uqP t) 0 t.us.len then 6 else if 0 ≤ idx (fkP t) 0 t.fs.len then 6 else 0) else 6) := Lib.hid rfl
  have HH0 : Hid (chkE g t.ks.len = fstE (chkE1 g) 0 t.ks.len) := Lib.hid rfl
  unfold rChkT at CG
  clear h hg hcx
  generalize tableE t g = te at HI ⊢
  generalize chkE g t.ks.len = he at HI HH0
  generalize colE t = ce at HI HE0
  generalize keyE t = ke at HI HK0
  generalize colE1 t = c1 at HE0 HCE
  generalize nulP t t.prim = np at HK0 HPN
  generalize uqP t = up at HK0 HPU
  generalize fkP t = fp at HK0 HPF
  generalize chkE1 g = k1 at HH0 HCK
  obtain ⟨tn, ⟨ca, cn, cc⟩, tf, ⟨pa, pn, pc⟩, tprim, ⟨ua, un, uc⟩, tuq, tuqn, ⟨fa, fn, fc⟩, tfk, tfkn, tfkt, ⟨ka, kn, kc⟩, tch⟩ := t
  simp only at hcl hcm hul hum hfl hfm hpl hpm hkl hkm hkn HCO HCL HCE CP HPI HPC CU CF HUC HFC CT CG HK HPU HPF HPN HI HE0 HK0 HH0 ⊢
  generalize keyB cn tprim pn = kb at HK0 CP HPI
  go_enter Tryz.func36, Tryz.ntmps36
  by_cases h1 : 8 < cn
  · have d1 : decide ((8 : Int) < (cn : Nat)) = true := by simp; omega
    have HT := Lib.hid (HI.out.1 (.inl h1))
    clear HI
    go_wp2_with fail
    go_ret
    refine ⟨ret_int (by rw [HT.out]), Cls.of ?_⟩
    repeat first|with_reducible exact Below.refl _ _|with_reducible refine Below.setCell ?_ (by first|omega|(simp;done)|(simp;omega)) _|with_reducible refine Below.alloc ?_ (by first|omega|(simp;done)|(simp;omega)) _|with_reducible refine Below.drew ?_|with_reducible refine Ext.on _ ?_ (by first|omega|(simp;done)|(simp;omega))
  have d1 : decide ((8 : Int) < (cn : Nat)) = false := by simp; omega
  by_cases h2 : 3 < un
  · have d2 : decide ((3 : Int) < (un : Nat)) = true := by simp; omega
    have HT := Lib.hid (HI.out.1 (.inr (.inl h2)))
    clear HI
    go_wp2_with fail
    go_ret
    refine ⟨ret_int (by rw [HT.out]), Cls.of ?_⟩
    repeat first|with_reducible exact Below.refl _ _|with_reducible refine Below.setCell ?_ (by first|omega|(simp;done)|(simp;omega)) _|with_reducible refine Below.alloc ?_ (by first|omega|(simp;done)|(simp;omega)) _|with_reducible refine Below.drew ?_|with_reducible refine Ext.on _ ?_ (by first|omega|(simp;done)|(simp;omega))
  have d2 : decide ((3 : Int) < (un : Nat)) = false := by simp; omega
  by_cases h3 : 3 < fn
  · have d3 : decide ((3 : Int) < (fn : Nat)) = true := by simp; omega
    have HT := Lib.hid (HI.out.1 (.inr (.inr (.inl h3))))
    clear HI
    go_wp2_with fail
    go_ret
    refine ⟨ret_int (by rw [HT.out]), Cls.of ?_⟩
    repeat first|with_reducible exact Below.refl _ _|with_reducible refine Below.setCell ?_ (by first|omega|(simp;done)|(simp;omega)) _|with_reducible refine Below.alloc ?_ (by first|omega|(simp;done)|(simp;omega)) _|with_reducible refine Below.drew ?_|with_reducible refine Ext.on _ ?_ (by first|omega|(simp;done)|(simp;omega))
  have d3 : decide ((3 : Int) < (fn : Nat)) = false := by simp; omega
  by_cases h4 : 4 < kn
  · have d4 : decide ((4 : Int) < (kn : Nat)) = true := by simp; omega
    have HT := Lib.hid (HI.out.1 (.inr (.inr (.inr h4))))
    clear HI
    go_wp2_with fail
    go_ret
    refine ⟨ret_int (by rw [HT.out]), Cls.of ?_⟩
    repeat first|with_reducible exact Below.refl _ _|with_reducible refine Below.setCell ?_ (by first|omega|(simp;done)|(simp;omega)) _|with_reducible refine Below.alloc ?_ (by first|omega|(simp;done)|(simp;omega)) _|with_reducible refine Below.drew ?_|with_reducible refine Ext.on _ ?_ (by first|omega|(simp;done)|(simp;omega))
  have d4 : decide ((4 : Int) < (kn : Nat)) = false := by simp; omega
  have HJ := Lib.hid (HI.out.2 (by omega))
  clear HI
  by_cases h5 : cn = 0
  · have d5 : ((cn : Int) == 0) = true := by simp; omega
    have HT := Lib.hid (HJ.out.1 h5)
    clear HJ h5
    go_wp2_with fail
    go_ret
    refine ⟨ret_int (by rw [HT.out]), Cls.of ?_⟩
    repeat first|with_reducible exact Below.refl _ _|with_reducible refine Below.setCell ?_ (by first|omega|(simp;done)|(simp;omega)) _|with_reducible refine Below.alloc ?_ (by first|omega|(simp;done)|(simp;omega)) _|with_reducible refine Below.drew ?_|with_reducible refine Ext.on _ ?_ (by first|omega|(simp;done)|(simp;omega))
  have d5 : ((cn : Int) == 0) = false := by simp; omega
  have HL := Lib.hid (HJ.out.2 h5)
  clear HJ
  go_wp2_with fail
  have hbl : (w.alloc (.cells #[.string tn, .slice ca cn cc, .slice pa pn pc, .slice ua un uc, .slice fa fn fc, .slice ka kn kc] 55)).heap[w.heap.size]? = some (.cells #[.string tn, .slice ca cn cc, .slice pa pn pc, .slice ua un uc, .slice fa fn fc, .slice ka kn kc] 55) := heap_alloc_new w _
  have HBL := Lib.hid hbl
  have HB0 : Hid (Below w.heap.size w (w.alloc (.cells #[.string tn, .slice ca cn cc, .slice pa pn pc, .slice ua un uc, .slice fa fn fc, .slice ka kn kc] 55))) := Lib.hid (by repeat first|with_reducible exact Below.refl _ _|with_reducible refine Below.setCell ?_ (by first|omega|(simp;done)|(simp;omega)) _|with_reducible refine Below.alloc ?_ (by first|omega|(simp;done)|(simp;omega)) _|with_reducible refine Below.drew ?_|with_reducible refine Ext.on _ ?_ (by first|omega|(simp;done)|(simp;omega)))
  have h0s : w.heap.size < (w.alloc (.cells #[.string tn, .slice ca cn cc, .slice pa pn pc, .slice ua un uc, .slice fa fn fc, .slice ka kn kc] 55)).heap.size := by simp
  clear hbl d1 d2 d3 d4 d5
  generalize (w.alloc (.cells #[.string tn, .slice ca cn cc, .slice pa pn pc, .slice ua un uc, .slice fa fn fc, .slice ka kn kc] 55)) = W0 at *
  obtain ⟨_, _, _, _, _, _, _, f0, f1, f2, f3, f4, f5⟩ := six_z HBL.out
  have HC : Hid (∀ y : Ext W0, Below w.heap.size w y.val) := Lib.hid fun y => HB0.out.trans (y.below.mono (by omega))
  go_loopw [3] (fun i wr => ∃ j : Nat, j ≤ cn ∧ i = .int .i64 j ∧ fstE c1 0 cn = fstE c1 j (cn - j) ∧ Cls W0 wr) (fun i _ => cn - (intOf i).toNat)
  case atStart => exact ⟨0, Nat.zero_le _, rfl, rfl, Cls.of (Below.refl _ _)⟩
  case round =>
    obtain ⟨j, hj, rfl, he, x, rfl⟩ := hrel
    have HE := Lib.hid he
    clear he
    have xs := x.size
    have hbx := HC.out x
    have HBX := Lib.hid hbx
    have hxl : w.heap.size < x.val.heap.size := by omega
    clear hbx
    by_cases hltj : j < cn
    · obtain ⟨b, off, ha, hb2, hc, hns⟩ := HCL.out j hltj
      subst ha
      have q0 := hc 0 (by omega)
      have q1 := hc 1 (by omega)
      have q2 := hc 2 (by omega)
      simp only [Cl.cells, List.getElem?_cons_zero, List.getElem?_cons_succ, Nat.add_zero] at q0 q1 q2
      rw [← HB0.out.cell (p := ⟨b, _, none⟩) hb2] at q0 q1 q2
      have hb3 : b < W0.heap.size := by omega
      have hS : Hid (cn - j = (cn - (j + 1)) + 1) := Lib.hid (by omega)
      have hP := Lib.hid (HCE.out j hltj)
      have C1 := Lib.hid (HCO.out (tf j).name)
      have C2 : Hid (∀ W, Calls Tryz.prog 34 #[.string (tf j).name] W fun r w' => r = .returned (.bool (nameB (tf j).name)) ∧ Cls W w') := Lib.hid fun W => HN.out _ W hns
      clear hc hns
      generalize at0 (idx (colP tf (tf j).name) 0 cn) = a0 at C1 hP
      generalize decide (0 ≤ idx (colP tf (tf j).name) 0 cn) = bd at C1
      generalize nameB (tf j).name = nb at C2 hP
      generalize tf j = c at q0 q1 q2 C1 C2 hP
      obtain ⟨cname, cty, cnull⟩ := c
      simp only at q0 q1 q2 C1 C2 hP
      obtain ⟨ha0, hP1, hP2⟩ := hP.out
      have HQ1 := Lib.hid hP1
      have HQ2 := Lib.hid hP2
      have HBA : Hid (Below w.heap.size w (x.val.alloc (.cells #[.string cname, .int .i64 cty, .bool cnull] 62)) ∧ Below W0.heap.size W0 (x.val.alloc (.cells #[.string cname, .int .i64 cty, .bool cnull] 62))) := Lib.hid ⟨HBX.out.trans (((Below.refl _ _).alloc (Nat.le_refl _) _).mono HBX.out.size), x.below.trans (((Below.refl _ _).alloc (Nat.le_refl _) _).mono xs)⟩
      have hal : x.val.heap.size < (x.val.alloc (.cells #[.string cname, .int .i64 cty, .bool cnull] 62)).heap.size := by simp
      have hal2 : w.heap.size < (x.val.alloc (.cells #[.string cname, .int .i64 cty, .bool cnull] 62)).heap.size := by omega
      clear hP hP1 hP2
      cases nb
      · have hP3 := Lib.hid (HQ1.out rfl)
        go_wp2_with (go_at_call 34; ((with_reducible refine (C2.out _).mono ?_); rintro r _ ⟨rfl, y, rfl⟩; have ys := y.size))
        go_ret
        have hfe : ce = 3 := by rw [HE0.out, HE.out, hS.out, fstE_stop (by rw [hP3.out]; decide), hP3.out]
        exact ⟨ret_int (by rw [HL.out.1 (by rw [hfe]; decide), hfe]), Cls.of (y.on HBA.out.1 (by omega))⟩
      · by_cases ha : a0 = (j : Int)
        · have HQ3 := Lib.hid ((HQ2.out rfl).2 ha)
          have e1 : (a0 == (j : Int)) = true := by simp [ha]
          have e2 : (a0 != (j : Int)) = false := by simp [ha]
          clear ha HQ2
          by_cases ht : cty < 1 ∨ 3 < cty
          · have hP3 := Lib.hid (HQ3.out.1 ht)
            by_cases ht1 : cty < 1
            · have g1 : decide (cty < 1) = true := by simp; omega
              clear ht ht1
              go_wp2_with (first | (go_at_call 34; ((with_reducible refine (C2.out _).mono ?_); rintro r _ ⟨rfl, y, rfl⟩; obtain ⟨l1, l2, l3, l4, l5⟩ := y.lts hal; obtain ⟨m1, m2, m3, m4, m5⟩ := y.lts hal2; have ys := y.size)) | (go_at_call 64; ((with_reducible refine (C1.out _ (y.on HBA.out.1 (by omega))).mono ?_); rintro r _ ⟨rfl, z, rfl⟩; obtain ⟨l6, l7, l8, l9, l10⟩ := z.lts l1; have zs := z.size)))
              go_ret
              have hfe : ce = 4 := by rw [HE0.out, HE.out, hS.out, fstE_stop (by rw [hP3.out]; decide), hP3.out]
              exact ⟨ret_int (by rw [HL.out.1 (by rw [hfe]; decide), hfe]), Cls.of (z.on (y.on HBA.out.1 (by omega)) (by omega))⟩
            · have g1 : decide (cty < 1) = false := by simp; omega
              have g2 : decide (3 < cty) = true := by simp; omega
              clear ht ht1
              go_wp2_with (first | (go_at_call 34; ((with_reducible refine (C2.out _).mono ?_); rintro r _ ⟨rfl, y, rfl⟩; obtain ⟨l1, l2, l3, l4, l5⟩ := y.lts hal; obtain ⟨m1, m2, m3, m4, m5⟩ := y.lts hal2; have ys := y.size)) | (go_at_call 64; ((with_reducible refine (C1.out _ (y.on HBA.out.1 (by omega))).mono ?_); rintro r _ ⟨rfl, z, rfl⟩; obtain ⟨l6, l7, l8, l9, l10⟩ := z.lts l1; have zs := z.size)))
              go_ret
              have hfe : ce = 4 := by rw [HE0.out, HE.out, hS.out, fstE_stop (by rw [hP3.out]; decide), hP3.out]
              exact ⟨ret_int (by rw [HL.out.1 (by rw [hfe]; decide), hfe]), Cls.of (z.on (y.on HBA.out.1 (by omega)) (by omega))⟩
          · have hP3 := Lib.hid (HQ3.out.2 ht)
            have g1 : decide (cty < 1) = false := by simp; omega
            have g2 : decide (3 < cty) = false := by simp; omega
            clear ht
            go_wp2_with (first | (go_at_call 34; ((with_reducible refine (C2.out _).mono ?_); rintro r _ ⟨rfl, y, rfl⟩; obtain ⟨l1, l2, l3, l4, l5⟩ := y.lts hal; obtain ⟨m1, m2, m3, m4, m5⟩ := y.lts hal2; have ys := y.size)) | (go_at_call 64; ((with_reducible refine (C1.out _ (y.on HBA.out.1 (by omega))).mono ?_); rintro r _ ⟨rfl, z, rfl⟩; obtain ⟨l6, l7, l8, l9, l10⟩ := z.lts l1; have zs := z.size)))
            go_roundw
            case rel => exact ⟨j + 1, by omega, by go_num, by rw [HE.out, hS.out, fstE_go hP3.out], Cls.of (z.on (y.on HBA.out.2 (by omega)) (by omega))⟩
            case measure => simp [intOf]; omega
        · have hP3 := Lib.hid ((HQ2.out rfl).1 ha)
          have e1 : (a0 == (j : Int)) = false := by simp [ha]
          have e2 : (a0 != (j : Int)) = true := by simp [ha]
          clear ha HQ2
          go_wp2_with (first | (go_at_call 34; ((with_reducible refine (C2.out _).mono ?_); rintro r _ ⟨rfl, y, rfl⟩; obtain ⟨l1, l2, l3, l4, l5⟩ := y.lts hal; obtain ⟨m1, m2, m3, m4, m5⟩ := y.lts hal2; have ys := y.size)) | (go_at_call 64; ((with_reducible refine (C1.out _ (y.on HBA.out.1 (by omega))).mono ?_); rintro r _ ⟨rfl, z, rfl⟩; obtain ⟨l6, l7, l8, l9, l10⟩ := z.lts l1; have zs := z.size)))
          go_ret
          have hfe : ce = 5 := by rw [HE0.out, HE.out, hS.out, fstE_stop (by rw [hP3.out]; decide), hP3.out]
          exact ⟨ret_int (by rw [HL.out.1 (by rw [hfe]; decide), hfe]), Cls.of (z.on (y.on HBA.out.1 (by omega)) (by omega))⟩
    · have hz : Hid (cn - j = 0) := Lib.hid (by omega)
      have hfe : ce = 0 := by rw [HE0.out, HE.out, hz.out]; rfl
      have HM := Lib.hid (HL.out.2 hfe)
      clear HL hz HE hfe HE0 HCE HCO HN
      cases kb
      · have hke : ke = 6 := HK0.out
        have HKE := Lib.hid hke
        have HT := Lib.hid (HM.out.1 (by rw [hke]; decide))
        clear HM hke HK0
        go_wp2_with (go_at_call 65; ((with_reducible refine (CP.out _ HBX.out).mono ?_); rintro r _ ⟨rfl, y, rfl⟩))
        go_ret
        exact ⟨ret_int (by rw [HT.out, HKE.out]), Cls.of (y.on HBX.out (by omega))⟩
      · have HPR := Lib.hid (HPI.out rfl)
        have HK1 : Hid (ke = if 0 ≤ idx np 0 pn then 4 else if 0 ≤ idx up 0 un then 6 else if 0 ≤ idx fp 0 fn then 6 else 0) := Lib.hid HK0.out
        clear HPI HK0
        go_wp2_with (go_at_call 65; ((with_reducible refine (CP.out _ HBX.out).mono ?_); rintro r _ ⟨rfl, y, rfl⟩))
        have hyb : Below W0.heap.size W0 y.val := y.on x.below xs
        have HYB := Lib.hid hyb
        clear hyb HBX
        obtain ⟨Y, hY⟩ : ∃ Y : Ext W0, Y.val = y.val := ⟨⟨y.val, HYB.out⟩, rfl⟩
        rw [← hY]
        clear hY y x HYB xs hxl
        go_loopw [7] (fun i wr => ∃ j : Nat, j ≤ pn ∧ i = .int .i64 j ∧ idx np 0 pn = idx np j (pn - j) ∧ Cls W0 wr) (fun i _ => pn - (intOf i).toNat)
        case atStart => exact ⟨0, Nat.zero_le _, rfl, rfl, Y, rfl⟩
        case round =>
          clear Y
          obtain ⟨j, hj, rfl, he, x, rfl⟩ := hrel
          have HE := Lib.hid he
          clear he
          have xs := x.size
          by_cases hltj : j < pn
          · obtain ⟨b, off, ha, hb2, q0⟩ := HPC.out j hltj
            subst ha
            obtain ⟨hp0, hp1⟩ := HPR.out j hltj
            have hpn2 := HPN.out j
            obtain ⟨c, hc⟩ : ∃ c : Nat, tprim j = (c : Int) := ⟨(tprim j).toNat, by omega⟩
            rw [hc] at q0 hpn2 hp1
            rw [Int.toNat_natCast] at hpn2
            obtain ⟨b', off', ha', hb2', hcc, _⟩ := HCL.out c (by omega)
            subst ha'
            have r0 := hcc 0 (by omega)
            have r1 := hcc 1 (by omega)
            have r2 := hcc 2 (by omega)
            simp only [Cl.cells, List.getElem?_cons_zero, List.getElem?_cons_succ, Nat.add_zero] at r0 r1 r2
            rw [← HB0.out.cell (p := ⟨b, _, none⟩) hb2] at q0
            rw [← HB0.out.cell (p := ⟨b', _, none⟩) hb2'] at r0 r1 r2
            have hb3 : b < W0.heap.size := by omega
            have hb3' : b' < W0.heap.size := by omega
            have hS : Hid (pn - j = (pn - (j + 1)) + 1) := Lib.hid (by omega)
            have HNJ := Lib.hid hpn2
            clear hcc hc hpn2 hp0
            generalize tf c = cl at r0 r1 r2 HNJ
            obtain ⟨clname, clty, clnull⟩ := cl
            simp only at r0 r1 r2 HNJ
            cases clnull
            all_goals
              go_wp2_with fail
              refine wp_region_on (by kernel_rfl) (by kernel_rfl) ?_
              repeat (go_big_quiet_step (fail))
              refine wpQuiet_nil ?_
              rintro _ ⟨y, rfl⟩
              go_wp2_with fail
            · go_roundw
              case rel => exact ⟨j + 1, by omega, by go_num, by rw [HE.out, hS.out, idx_go HNJ.out], y, rfl⟩
              case measure => simp [intOf]; omega
            · go_ret
              have hke : ke = 4 := by rw [HK1.out, if_pos (by rw [HE.out, hS.out, idx_stop HNJ.out]; omega)]
              exact ⟨ret_int (by rw [HM.out.1 (by rw [hke]; decide), hke]), Cls.of (HC.out y)⟩
          · have hz : Hid (pn - j = 0) := Lib.hid (by omega)
            have HK2 : Hid (ke = if 0 ≤ idx up 0 un then 6 else if 0 ≤ idx fp 0 fn then 6 else 0) := Lib.hid (by rw [HK1.out, if_neg (by rw [HE.out, hz.out]; show ¬ ((0 : Int) ≤ -1); decide)])
            clear HK1 HE hz HPN HPR HPC
            go_wp2_with fail
            go_loopw [8] (fun i wr => ∃ j : Nat, j ≤ un ∧ i = .int .i64 j ∧ idx up 0 un = idx up j (un - j) ∧ Cls W0 wr) (fun i _ => un - (intOf i).toNat)
            case atStart => exact ⟨0, Nat.zero_le _, rfl, rfl, x, rfl⟩
            case round =>
              clear x xs
              obtain ⟨j, hj, rfl, he, x, rfl⟩ := hrel
              have HE := Lib.hid he
              clear he
              have xs := x.size
              by_cases hltj : j < un
              · obtain ⟨b, off, ha, hb2, hc⟩ := HUC.out j hltj
                subst ha
                have q0 := hc 0 (by omega)
                simp only [List.getElem?_cons_zero, Nat.add_zero, Nat.mul_one, Sl.v] at q0
                rw [← HB0.out.cell (p := ⟨b, _, none⟩) hb2] at q0
                have hb3 : b < W0.heap.size := by omega
                have hS : Hid (un - j = (un - (j + 1)) + 1) := Lib.hid (by omega)
                have hP := Lib.hid (HPU.out j)
                have C3 := Lib.hid (CU.out j hltj)
                clear hc
                generalize keyB cn (tuqn j) (tuq j).len = kb at hP C3
                generalize tuq j = u at q0 C3
                obtain ⟨u1, u2, u3⟩ := u
                simp only at q0 C3
                cases kb
                all_goals
                  go_wp2_with fail
                  refine wp_region_on (by kernel_rfl) (by kernel_rfl) ?_
                  repeat (go_big_quiet_step ((go_at_call 65; exact Cls.call (C3.out _ (HC.out _)))))
                  refine wpQuiet_nil ?_
                  rintro _ ⟨y, rfl⟩
                  go_wp2_with fail
                · go_ret
                  have hke : ke = 6 := by rw [HK2.out, if_pos (by rw [HE.out, hS.out, idx_stop hP.out]; omega)]
                  exact ⟨ret_int (by rw [HM.out.1 (by rw [hke]; decide), hke]), Cls.of (HC.out y)⟩
                · go_roundw
                  case rel => exact ⟨j + 1, by omega, by go_num, by rw [HE.out, hS.out, idx_go hP.out], y, rfl⟩
                  case measure => simp [intOf]; omega
              · have hz : Hid (un - j = 0) := Lib.hid (by omega)
                have HK3 : Hid (ke = if 0 ≤ idx fp 0 fn then 6 else 0) := Lib.hid (by rw [HK2.out, if_neg (by rw [HE.out, hz.out]; show ¬ ((0 : Int) ≤ -1); decide)])
                clear HK2 HE hz HPU HUC CU
                go_wp2_with fail
                go_loopw [9] (fun i wr => ∃ j : Nat, j ≤ fn ∧ i = .int .i64 j ∧ idx fp 0 fn = idx fp j (fn - j) ∧ Cls W0 wr) (fun i _ => fn - (intOf i).toNat)
                case atStart => exact ⟨0, Nat.zero_le _, rfl, rfl, x, rfl⟩
                case round =>
                  clear x xs
                  obtain ⟨j, hj, rfl, he, x, rfl⟩ := hrel
                  have HE := Lib.hid he
                  clear he
                  have xs := x.size
                  by_cases hltj : j < fn
                  · obtain ⟨b, off, ha, hb2, hc⟩ := HFC.out j hltj
                    subst ha
                    have q0 := hc 0 (by omega)
                    have q1 := hc 1 (by omega)
                    simp only [List.getElem?_cons_zero, List.getElem?_cons_succ, Nat.add_zero, Sl.v] at q0 q1
                    rw [← HB0.out.cell (p := ⟨b, _, none⟩) hb2] at q0 q1
                    have hb3 : b < W0.heap.size := by omega
                    have hS : Hid (fn - j = (fn - (j + 1)) + 1) := Lib.hid (by omega)
                    have hP := Lib.hid (HPF.out j)
                    have C3 := Lib.hid (CF.out j hltj)
                    clear hc
                    generalize keyB cn (tfkn j) (tfk j).len = kb at hP C3
                    generalize tfk j = u at q0 C3
                    generalize tfkt j = ut at q1
                    obtain ⟨u1, u2, u3⟩ := u
                    simp only at q0 C3
                    cases kb
                    all_goals
                      go_wp2_with fail
                      refine wp_region_on (by kernel_rfl) (by kernel_rfl) ?_
                      repeat (go_big_quiet_step ((go_at_call 65; exact Cls.call (C3.out _ (HC.out _)))))
                      refine wpQuiet_nil ?_
                      rintro _ ⟨y, rfl⟩
                      go_wp2_with fail
                    · go_ret
                      have hke : ke = 6 := by rw [HK3.out, if_pos (by rw [HE.out, hS.out, idx_stop hP.out]; omega)]
                      exact ⟨ret_int (by rw [HM.out.1 (by rw [hke]; decide), hke]), Cls.of (HC.out y)⟩
                    · go_roundw
                      case rel => exact ⟨j + 1, by omega, by go_num, by rw [HE.out, hS.out, idx_go hP.out], y, rfl⟩
                      case measure => simp [intOf]; omega
                  · have hz : Hid (fn - j = 0) := Lib.hid (by omega)
                    have hke : ke = 0 := by rw [HK3.out, if_neg (by rw [HE.out, hz.out]; show ¬ ((0 : Int) ≤ -1); decide)]
                    have HT := Lib.hid (HM.out.2 hke)
                    have CTT := Lib.hid (CT.out (by omega))
                    clear HK3 HE hz HPF HFC CF HM hke CT
                    go_wp2_with fail
                    go_loopw [10] (fun i wr => ∃ j : Nat, j ≤ kn ∧ i = .int .i64 j ∧ fstE k1 0 kn = fstE k1 j (kn - j) ∧ Cls W0 wr) (fun i _ => kn - (intOf i).toNat)
                    case atStart => exact ⟨0, Nat.zero_le _, rfl, rfl, x, rfl⟩
                    case round =>
                      clear x xs
                      obtain ⟨j, hj, rfl, he, x, rfl⟩ := hrel
                      have HE := Lib.hid he
                      clear he
                      have xs := x.size
                      by_cases hltj : j < kn
                      · obtain ⟨ea, en, ep, ⟨b, off, ha, hb2, -, q0, q1, q2, q3, q4, q5⟩, hfine, hkk⟩ := HK.out.at_ (i := j) hltj
                        subst ha
                        rw [← HB0.out.cell (p := ⟨b, _, none⟩) hb2] at q0 q1 q2 q3 q4 q5
                        have HKK := Lib.hid hkk
                        have hb3 : b < W0.heap.size := by omega
                        have hS : Hid (kn - j = (kn - (j + 1)) + 1) := Lib.hid (by omega)
                        have hP := Lib.hid (HCK.out j)
                        have C1 := Lib.hid (CG.out j (by omega))
                        clear hkk hfine
                        generalize g j = gj at hP C1
                        obtain ⟨g1, g2⟩ := gj
                        simp only at hP C1
                        generalize tch.getD j Ex.z = e at q0 q1 q2 q3 q4 q5 C1 HKK
                        generalize (fun i => (tyL tf cn).getD i 0) = tyf at CTT C1
                        by_cases h2 : g2 = 0
                        · subst h2
                          by_cases h1 : g1 = 2
                          · subst h1
                            have hP3 : Hid (k1 j = 0) := Lib.hid (hP.out.1 rfl rfl)
                            clear hP
                            go_wp2_with fail
                            refine wp_region_lin_on (by kernel_rfl) (by kernel_rfl) ?_
                            intro y0
                            have y0s := y0.size
                            repeat (refine lin_calm rfl ?_; intro KK hKK; go_big_quiet_step (fail); refine wpQuiet_nil ?_; refine hKK _ ?_; clear hKK KK)
                            refine lin_free rfl ?_
                            intro KK hKK
                            go_wp2_with (go_at_call 25; ((with_reducible refine (CTT.out _ (HC.out y0)).mono ?_); rintro r w2 ⟨⟨sa, sn, sp⟩, he, hsl, hsat, z, rfl⟩; have he2 : r = .returned (.slice sa sn sp) := he; clear he; subst he2; have HSA := Lib.hid hsat; have zs := z.size; have hsl2 : sn = cn := hsl; have HSL := Lib.hid hsl2; clear hsat hsl hsl2))
                            have hzb := z.on y0.below y0s
                            have HZB := Lib.hid hzb
                            clear hzb
                            refine hKK _ _ (.inr ⟨⟨z.val, HZB.out⟩, rfl⟩) ?_
                            clear hKK KK
                            repeat (refine lin_calm rfl ?_; intro KK hKK; go_big_quiet_step (fail); refine wpQuiet_nil ?_; refine hKK _ ?_; clear hKK KK)
                            refine lin_free rfl ?_
                            intro KK hKK
                            have HBZ : Hid (Below w.heap.size w z.val) := Lib.hid (HB0.out.trans (HZB.out.mono (by omega)))
                            go_wp2_with (go_at_call 66; ((with_reducible refine (C1.out z.val ⟨sa, sn, sp⟩ ea en ep HBZ.out HSL.out HSA.out (HKK.out.later HBZ.out)).mono ?_); rintro r _ ⟨rfl, v, rfl⟩; have vs := v.size))
                            have HVB := Lib.hid (v.on HZB.out (by omega))
                            refine hKK _ _ (.inr ⟨⟨v.val, HVB.out⟩, rfl⟩) ?_
                            clear hKK KK
                            repeat (refine lin_calm rfl ?_; intro KK hKK; go_big_quiet_step (fail); refine wpQuiet_nil ?_; refine hKK _ ?_; clear hKK KK)
                            refine lin_nil ?_
                            go_wp2_with fail
                            go_roundw
                            case rel => exact ⟨j + 1, by omega, by go_num, by rw [HE.out, hS.out, fstE_go hP3.out], Cls.of HVB.out⟩
                            case measure => simp [intOf]; omega
                          · have d1 : (g1 == 2) = false := by simp [h1]
                            have d1' : (g1 != 2) = true := by simp [h1]
                            have hP3 : Hid (k1 j = 4) := Lib.hid (hP.out.2.1 rfl h1)
                            clear hP h1
                            go_wp2_with fail
                            refine wp_region_lin_on (by kernel_rfl) (by kernel_rfl) ?_
                            intro y0
                            have y0s := y0.size
                            repeat (refine lin_calm rfl ?_; intro KK hKK; go_big_quiet_step (fail); refine wpQuiet_nil ?_; refine hKK _ ?_; clear hKK KK)
                            refine lin_free rfl ?_
                            intro KK hKK
                            go_wp2_with (go_at_call 25; ((with_reducible refine (CTT.out _ (HC.out y0)).mono ?_); rintro r w2 ⟨⟨sa, sn, sp⟩, he, hsl, hsat, z, rfl⟩; have he2 : r = .returned (.slice sa sn sp) := he; clear he; subst he2; have HSA := Lib.hid hsat; have zs := z.size; have hsl2 : sn = cn := hsl; have HSL := Lib.hid hsl2; clear hsat hsl hsl2))
                            have hzb := z.on y0.below y0s
                            have HZB := Lib.hid hzb
                            clear hzb
                            refine hKK _ _ (.inr ⟨⟨z.val, HZB.out⟩, rfl⟩) ?_
                            clear hKK KK
                            repeat (refine lin_calm rfl ?_; intro KK hKK; go_big_quiet_step (fail); refine wpQuiet_nil ?_; refine hKK _ ?_; clear hKK KK)
                            refine lin_free rfl ?_
                            intro KK hKK
                            have HBZ : Hid (Below w.heap.size w z.val) := Lib.hid (HB0.out.trans (HZB.out.mono (by omega)))
                            go_wp2_with (go_at_call 66; ((with_reducible refine (C1.out z.val ⟨sa, sn, sp⟩ ea en ep HBZ.out HSL.out HSA.out (HKK.out.later HBZ.out)).mono ?_); rintro r _ ⟨rfl, v, rfl⟩; have vs := v.size))
                            have HVB := Lib.hid (v.on HZB.out (by omega))
                            refine hKK _ _ (.inr ⟨⟨v.val, HVB.out⟩, rfl⟩) ?_
                            clear hKK KK
                            repeat (refine lin_calm rfl ?_; intro KK hKK; go_big_quiet_step (fail); refine wpQuiet_nil ?_; refine hKK _ ?_; clear hKK KK)
                            refine lin_nil ?_
                            go_wp2_with fail
                            go_ret
                            exact ⟨ret_int (by rw [HT.out, HH0.out, HE.out, hS.out, fstE_stop (by rw [hP3.out]; decide), hP3.out]), Cls.of (HB0.out.trans (HVB.out.mono (by omega)))⟩
                        · have d1 : (g2 == 0) = false := by simp [h2]
                          have d1' : (g2 != 0) = true := by simp [h2]
                          have hP3 : Hid (k1 j = g2) := Lib.hid (hP.out.2.2 h2)
                          have HG2 := Lib.hid h2
                          clear hP h2
                          go_wp2_with fail
                          refine wp_region_lin_on (by kernel_rfl) (by kernel_rfl) ?_
                          intro y0
                          have y0s := y0.size
                          repeat (refine lin_calm rfl ?_; intro KK hKK; go_big_quiet_step (fail); refine wpQuiet_nil ?_; refine hKK _ ?_; clear hKK KK)
                          refine lin_free rfl ?_
                          intro KK hKK
                          go_wp2_with (go_at_call 25; ((with_reducible refine (CTT.out _ (HC.out y0)).mono ?_); rintro r w2 ⟨⟨sa, sn, sp⟩, he, hsl, hsat, z, rfl⟩; have he2 : r = .returned (.slice sa sn sp) := he; clear he; subst he2; have HSA := Lib.hid hsat; have zs := z.size; have hsl2 : sn = cn := hsl; have HSL := Lib.hid hsl2; clear hsat hsl hsl2))
                          have hzb := z.on y0.below y0s
                          have HZB := Lib.hid hzb
                          clear hzb
                          refine hKK _ _ (.inr ⟨⟨z.val, HZB.out⟩, rfl⟩) ?_
                          clear hKK KK
                          repeat (refine lin_calm rfl ?_; intro KK hKK; go_big_quiet_step (fail); refine wpQuiet_nil ?_; refine hKK _ ?_; clear hKK KK)
                          refine lin_free rfl ?_
                          intro KK hKK
                          have HBZ : Hid (Below w.heap.size w z.val) := Lib.hid (HB0.out.trans (HZB.out.mono (by omega)))
                          go_wp2_with (go_at_call 66; ((with_reducible refine (C1.out z.val ⟨sa, sn, sp⟩ ea en ep HBZ.out HSL.out HSA.out (HKK.out.later HBZ.out)).mono ?_); rintro r _ ⟨rfl, v, rfl⟩; have vs := v.size))
                          have HVB := Lib.hid (v.on HZB.out (by omega))
                          refine hKK _ _ (.inr ⟨⟨v.val, HVB.out⟩, rfl⟩) ?_
                          clear hKK KK
                          repeat (refine lin_calm rfl ?_; intro KK hKK; go_big_quiet_step (fail); refine wpQuiet_nil ?_; refine hKK _ ?_; clear hKK KK)
                          refine lin_nil ?_
                          go_wp2_with fail
                          go_ret
                          exact ⟨ret_int (by rw [HT.out, HH0.out, HE.out, hS.out, fstE_stop (by rw [hP3.out]; exact HG2.out), hP3.out]), Cls.of (HB0.out.trans (HVB.out.mono (by omega)))⟩
                      · have hz : Hid (kn - j = 0) := Lib.hid (by omega)
                        go_wp2_with fail
                        go_ret
                        exact ⟨ret_int (by rw [HT.out, HH0.out, HE.out, hz.out]; rfl), Cls.of (HC.out x)⟩
end Go.Proofs.YtdmhmlnfoocnjaaGreatDoor
