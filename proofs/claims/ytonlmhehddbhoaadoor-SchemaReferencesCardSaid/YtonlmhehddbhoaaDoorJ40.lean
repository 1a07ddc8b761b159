/-
  SchemaReferences: what the law does, whatever numbers it is given.
-/
import Derived.Test.YtonlmhehddbhoaaDoorJ31
import Derived.Test.YtonlmhehddbhoaaDoorJ38
import Derived.Test.YtonlmhehddbhoaaDoorJ39
set_option linter.unusedVariables false
namespace Go.Proofs.YtonlmhehddbhoaaDoor
open Go Go.RowKit Go.Deep
theorem numIn_sl {w : World} {s : Sl} {l : List Int} (hl : l.length = s.len) (h : SlAt w 1 s (intC fun i => l.getD i 0)) : NumIn w s.a s.len s.cap l := by
  refine ⟨hl, h.1, h.2.1, ?_⟩
  rcases Nat.eq_zero_or_pos s.len with h0 | h0
  · exact .inl h0
  · right
    obtain ⟨b, off, ha, hb, _⟩ := h.2.2.2 0 h0
    refine ⟨b, off, ha, hb, fun i hi => ?_⟩
    obtain ⟨b', off', ha', _, hc⟩ := h.2.2.2 i hi
    rw [ha] at ha'
    simp only [Option.some.injEq, Addr.mk.injEq, and_true] at ha'
    obtain ⟨rfl, rfl⟩ := ha'
    have := hc 0 (by omega)
    simpa [intC] using this
theorem chkT_made {w : World} {i fr ff : Nat} {t : Tb} (h : MT i t fr ff) (ho : OpsTab w) : ChkT w t fun _ => (2, 0) := by
  intro k hk W s a len cap hW hsl hs hkk
  have hm : t.checks.getD k Ex.z ∈ t.checks := getD_mem hk
  have hM := h.cks _ hm
  have hty : ∀ c, c < (tyL t.col t.cs.len).length → IsTy ((tyL t.col t.cs.len).getD c 0) := fun c hc => by
    rw [tyL_len] at hc
    unfold tyL
    rw [getD_map_range _ _ _ _ hc]
    exact (h.col c (by rw [← h.csl]; exact hc)).2
  have hsz : sizE (t.checks.getD k Ex.z) ≤ 200 := Nat.le_trans hM.bounds.2 (by decide)
  have h1 := Type_made hty hM ty2 (by omega) s.a s.len s.cap a len cap _ W (numIn_sl (by rw [tyL_len, hsl]) hs) hkk (ho.later hW)
  have e1 : tyK 2 (t.checks.getD k Ex.z) = 2 := if_pos hsz
  have e2 : tyErr (t.checks.getD k Ex.z) = 0 := if_pos hsz
  rw [e1, e2] at h1
  exact h1
/-- What the law's calls give, of a schema that the tape made. -/
structure Use (sl : Sl) (tb : Nat → Tb) (w : World) : Prop where
  val : ∀ W, Below w.heap.size w W → Calls Tryd.prog 16 #[.agg #[.slice sl.a sl.len sl.cap]] W fun r w' => r = .returned (.int .i64 0) ∧ Cls W w'
  ord : ∀ W, Below w.heap.size w W → Calls Tryd.prog 18 #[.agg #[.slice sl.a sl.len sl.cap]] W fun r w' => ∃ s : Sl, r = .returned (.tuple #[.slice s.a s.len s.cap, .int .i64 0]) ∧ s.len = sl.len ∧ SlAt w' 1 s (intC fun i => ((i : Nat) : Int)) ∧ Cls W w'
  tgt : ∀ i k : Nat, i < sl.len → k < (tb i).fs.len → tgN sl tb i k < i ∧ ∀ W, Below w.heap.size w W → Calls Tryd.prog 19 #[.agg #[.slice sl.a sl.len sl.cap], .int .i64 (i : Nat), .int .i64 (k : Nat)] W fun r w' => r = .returned (.tuple #[.int .i64 (tgN sl tb i k : Nat), .bool true]) ∧ Cls W w'
  row : ∀ j, j < sl.len → ∃ b off, sl.a = some ⟨b, off, none⟩ ∧ b < w.heap.size ∧ w.cell? ⟨b, off + j * 6 + 4, none⟩ = some (.slice (tb j).fs.a (tb j).fs.len (tb j).fs.cap)
  l1 : 1 ≤ sl.len
  l3 : sl.len ≤ 3
  f2 : ∀ j, j < sl.len → (tb j).fs.len ≤ 2
theorem use_of {sl : Sl} {tb : Nat → Tb} {w : World} (h : SchG sl tb) (hT : TabsAt w sl tb) (ho : OpsTab w) : Use sl tb w := by
  obtain ⟨fr, ff, hm⟩ := made_all h
  have h1 := h.1
  have h3 := h.2.1
  have hf : ∀ i, i < sl.len → (tb i).fs.len ≤ 2 := fun i hi => by
    have := (hm i hi).fsl
    have := (hm i hi).f2
    omega
  refine ⟨fun W hW => ?_, fun W hW => ?_, fun i k hi hk => ⟨(made_tgt h3 hm hi hk).2, fun W hW => ?_⟩, fun j hj => ?_, h1, h3, hf⟩
  · have := sValid_calls sl tb (fun _ _ => (2, 0)) W (hT.later hW) fun i hi => chkT_made (hm i hi) (ho.later hW)
    rw [made_valid h1 h3 hm (fun _ _ => (2, 0)) fun i hi k hk => rfl] at this
    exact this
  · refine (Order_calls sl tb W (hT.later hW) (by omega) fun i hi => by have := hf i hi; omega).mono fun r w' hq => ?_
    have hol := made_ord h3 hm sl.len (Nat.le_refl _)
    rcases hq with ⟨a, _⟩ | ⟨_, b, _⟩ | ⟨_, _, s, hr, hs, hat, c⟩
    · exact absurd (tgtE_all (made_tgtE h3 hm)) a
    · rw [hol, List.length_range] at b
      omega
    · refine ⟨s, hr, hs, hat.congr_z fun i hi => ?_, c⟩
      rw [hol]
      have hi2 : i < sl.len := by omega
      simp [List.getD, hi2]
  · have h1 := Target_calls sl tb (i : Nat) (k : Nat) W (hT.later hW)
    rw [tgt_nat, (made_tgt h3 hm hi hk).1] at h1
    exact h1
  · obtain ⟨b, off, ha, hb, hc⟩ := hT.1.2.2.2 j hj
    exact ⟨b, off, ha, hb, hc 4 (by omega)⟩
set_option maxHeartbeats 8000000 in
set_option maxRecDepth 20000 in
theorem schemaReferences_walk (a : Option Addr) (len cap : Nat) (w : World) (hn : NumsAt w a len) (ho : OpsTab w) :
    Calls Tryd.prog 5 #[.slice a len cap] w fun r w' => r = .returned (.bool true) ∧ Below w.heap.size w w' := by
  have H := Lib.hid (tape_new (cap := cap) hn)
  have HO := Lib.hid ho
  have HBT : Hid (Below w.heap.size w (w.alloc (.cells #[.slice a len cap, .int .i64 0] 25))) := Lib.hid (by repeat first | with_reducible exact Below.refl _ _ | with_reducible refine Below.setCell ?_ (by first | omega | (simp; done) | (simp; omega)) _ | with_reducible refine Below.alloc ?_ (by first | omega | (simp; done) | (simp; omega)) _ | with_reducible refine Below.drew ?_ | with_reducible refine Ext.on _ ?_ (by first | omega | (simp; done) | (simp; omega)))
  clear hn ho
  go_enter Tryd.func5, Tryd.ntmps5
  go_wp2_with (first | (go_at_call 15; ((with_reducible refine (Schema_calls w.heap.size 0 _ H.out (by omega)).mono ?_); rintro r w1 hq; obtain ⟨⟨sa, sn, sc⟩, tb, he, hg, hT, z, rfl⟩ := hq; have he2 : r = .returned (.agg #[.slice sa sn sc]) := he; clear he; subst he2; have HU := Lib.hid (use_of hg hT ((HO.out.later HBT.out).tp z.tp (by have := HO.out.1; omega))); have zs := z.size; simp at zs; clear hg hT)) | (go_at_call 16; ((with_reducible refine (HU.out.val _ (by repeat first | with_reducible exact Below.refl _ _ | with_reducible refine Below.setCell ?_ (by first | omega | (simp; done) | (simp; omega)) _ | with_reducible refine Below.alloc ?_ (by first | omega | (simp; done) | (simp; omega)) _ | with_reducible refine Below.drew ?_ | with_reducible refine Ext.on _ ?_ (by first | omega | (simp; done) | (simp; omega)))).mono ?_); rintro r _ ⟨rfl, y, rfl⟩; obtain ⟨l1, l2, l3, l4, l5⟩ := y.lts (b := z.val.heap.size) (by simp); have ys := y.size; simp at ys)) | (go_at_call 18; ((with_reducible refine (HU.out.ord _ (by repeat first | with_reducible exact Below.refl _ _ | with_reducible refine Below.setCell ?_ (by first | omega | (simp; done) | (simp; omega)) _ | with_reducible refine Below.alloc ?_ (by first | omega | (simp; done) | (simp; omega)) _ | with_reducible refine Below.drew ?_ | with_reducible refine Ext.on _ ?_ (by first | omega | (simp; done) | (simp; omega)))).mono ?_); rintro r w3 hq; obtain ⟨⟨oa, on, oc⟩, he, hol, hos, x, rfl⟩ := hq; have he2 : r = .returned (.tuple #[.slice oa on oc, .int .i64 0]) := he; clear he; subst he2; have hol2 : on = sn := hol; subst hol2; clear hol; have HOS := Lib.hid hos; clear hos; obtain ⟨l6, l7, l8, l9, l10⟩ := x.lts (b := z.val.heap.size) (by omega); have xs := x.size; have hn3 := HU.out.l3; have hn1 := HU.out.l1; simp only at hn3 hn1; have hmk := fun W => run_make_row' (P := Tryd.prog) 61 4 (.bool false) 1 Tryd.underlying61 infoB rfl .i64 .i64 on (by omega) (by omega) W)))
  have hd0 := DoneAt.made x.val on
  have HBW : Hid (Below w.heap.size w (x.val.alloc (.cells (madeCells #[.bool false] on) 4))) := Lib.hid ((x.on (y.on (((HBT.out.trans (z.tp.toBelow (by simp) (Nat.le_refl _)))).alloc (by omega) _) (by simp; omega)) (by omega)).alloc (by omega) _)
  have HZW : Hid (Below z.val.heap.size z.val (x.val.alloc (.cells (madeCells #[.bool false] on) 4))) := Lib.hid ((x.on (y.on ((Below.refl _ _).alloc (Nat.le_refl _) _) (by simp)) (by omega)).alloc (by omega) _)
  have HSB : Hid ((x.val.alloc (.cells (madeCells #[.bool false] on) 4)).heap[z.val.heap.size]? = some (.cells #[.slice sa on sc] 45)) := Lib.hid ((Below.heap_alloc _ _ _ (by omega)).trans ((x.below.block _ (by omega)).trans ((y.below.block _ (by simp)).trans (heap_alloc_new z.val _))))
  have HOW := Lib.hid (HOS.out.later ((Below.refl _ _).alloc (Nat.le_refl _) (.cells (madeCells #[.bool false] on) 4)))
  have HOB : Hid (∀ b off, oa = some ⟨b, off, none⟩ → 0 < on → b < x.val.heap.size) := Lib.hid fun b off ha h0 => by
    obtain ⟨b', off', ha', hb', _⟩ := HOS.out.2.2.2 0 h0
    have ha2 : oa = some ⟨b', off', none⟩ := ha'
    rw [ha] at ha2
    simp only [Option.some.injEq, Addr.mk.injEq, and_true] at ha2
    obtain ⟨rfl, rfl⟩ := ha2
    exact hb'
  have hdl : x.val.heap.size + 1 ≤ (x.val.alloc (.cells (madeCells #[.bool false] on) 4)).heap.size := by simp
  have hxl : z.val.heap.size < x.val.heap.size := by omega
  have HD0 := Lib.hid hd0
  have HZS := Lib.hid zs
  clear hd0 hmk l1 l2 l3 l4 l5 l6 l7 l8 l9 l10 ys xs HOS H HO HBT zs
  generalize (x.val.alloc (.cells (madeCells #[.bool false] on) 4)) = W2 at HBW HZW HSB HOW hdl HD0 ⊢
  generalize x.val.heap.size = db at hdl hxl HD0 HOB ⊢
  generalize z.val = Z at HU HZW HSB hxl HZS ⊢
  have hzb : w.heap.size < Z.heap.size := HZS.out
  clear HZS
  go_loopw [7] (fun i wr => ∃ j : Nat, j ≤ on ∧ i = .int .i64 (j : Nat) ∧ DoneAt wr db on (List.range j) ∧ Tp db W2 wr) (fun i _ => on - (intOf i).toNat)
  case atStart => exact ⟨0, Nat.zero_le _, rfl, HD0.out, Tp.refl _ _⟩
  case round =>
    obtain ⟨j, hj, rfl, hd, ht⟩ := hrel
    have HD := Lib.hid hd
    have HT := Lib.hid ht
    have hsz := ht.size
    have hdl2 := hd.lt
    have HBR : Hid (Below w.heap.size w wr) := Lib.hid (HBW.out.trans (ht.toBelow (by omega) (by omega)))
    have HZR : Hid (Below Z.heap.size Z wr) := Lib.hid (HZW.out.trans (ht.toBelow (by omega) (by omega)))
    obtain ⟨bs1, _, k1⟩ := one_z ((ht.block Z.heap.size (by omega) (by omega)).trans HSB.out)
    clear hd ht
    by_cases hltj : j < on
    · obtain ⟨b, off, hoa, hb2, hc⟩ := HOW.out.2.2.2 j hltj
      have hoa2 : oa = some ⟨b, off, none⟩ := hoa
      have hbd := HOB.out b off hoa2 (by omega)
      clear hoa
      subst hoa2
      have q0 := hc 0 (by omega)
      simp only [intC, List.getElem?_cons_zero, Nat.add_zero, Nat.mul_one] at q0
      rw [← HT.out.cell _ hb2 (by omega)] at q0
      have hb3 : b < wr.heap.size := by omega
      obtain ⟨b', off', hsa, hb2', q4⟩ := HU.out.row j hltj
      have hsa2 : sa = some ⟨b', off', none⟩ := hsa
      clear hsa
      subst hsa2
      rw [← HZR.out.cell (p := ⟨b', _, none⟩) hb2'] at q4
      have hb3' : b' < wr.heap.size := by omega
      have HTG := Lib.hid (fun k => HU.out.tgt j k hltj)
      have hf2 := HU.out.f2 j hltj
      have hdc := HD.out.cell (i := j) hltj
      have hcn : (List.range j).contains j = false := by simp
      rw [Nat.zero_add, hcn] at hdc
      have hfr := HD.out.free j
      have d0 : decide ((j : Int) < 0) = false := by simp
      have d1 : decide ((on : Int) ≤ (j : Int)) = false := by simp; omega
      have d1n : decide (on ≤ j) = false := by simp; omega
      clear hc hcn
      generalize hfs : (tb j).fs = fs at q4 HTG hf2
      obtain ⟨fa, fn, fc⟩ := fs
      simp only at q4 HTG hf2
      clear hfs
      go_wp2_with fail
      go_loopw [9] (fun i wr4 => ∃ k : Nat, k ≤ fn ∧ i = .int .i64 (k : Nat) ∧ Cls wr wr4) (fun i _ => fn - (intOf i).toNat)
      case atStart => exact ⟨0, Nat.zero_le _, rfl, Cls.of (Below.refl _ _)⟩
      case round =>
        obtain ⟨k, hk, rfl, v, rfl⟩ := hrel
        have vs := v.size
        obtain ⟨g1, g2, g3, g4, g5⟩ := v.lts bs1
        obtain ⟨g6, g7, g8, g9, g10⟩ := v.lts hb3'
        obtain ⟨g11, g12, g13, g14, g15⟩ := v.lts hdl2
        have HZV : Hid (Below Z.heap.size Z v.val) := Lib.hid (HZR.out.trans (v.below.mono (by omega)))
        by_cases hltk : k < fn
        · obtain ⟨htl, hct⟩ := HTG.out k hltk
          have C1 := Lib.hid hct
          have hdt : wr.cell? ⟨db, tgN ⟨some ⟨b', off', none⟩, on, sc⟩ tb j k, none⟩ = some (.bool true) := by
            have h1 := HD.out.cell (i := tgN ⟨some ⟨b', off', none⟩, on, sc⟩ tb j k) (by omega)
            have h2 : (List.range j).contains (tgN ⟨some ⟨b', off', none⟩, on, sc⟩ tb j k) = true := by simpa using htl
            rwa [Nat.zero_add, h2] at h1
          clear hct
          generalize tgN ⟨some ⟨b', off', none⟩, on, sc⟩ tb j k = tt at htl C1 hdt
          have e0 : decide ((tt : Int) < 0) = false := by simp
          have e1 : decide ((on : Int) ≤ (tt : Int)) = false := by simp; omega
          have e1n : decide (on ≤ tt) = false := by simp; omega
          go_wp2_with (go_at_call 19; ((with_reducible refine (C1.out _ HZV.out).mono ?_); rintro r _ ⟨rfl, u, rfl⟩; obtain ⟨g16, g17, g18, g19, g20⟩ := u.lts g11; have us := u.size))
          go_roundw
          case rel => exact ⟨k + 1, by omega, by go_num, Cls.of (v.below.trans (u.below.mono vs))⟩
          case measure => simp [intOf]; omega
        · have HDS := Lib.hid ((HD.out.later v.below).set hltj)
          have hfr2 := (HD.out.later v.below).free j
          have hdc2 := (HD.out.later v.below).cell (i := j) hltj
          rw [Nat.zero_add] at HDS hdc2
          go_wp2_with fail
          go_roundw
          case rel => exact ⟨j + 1, by omega, by go_num, by rw [List.range_succ]; exact HDS.out, Tp.setCell (p := ⟨db, j, none⟩) (HT.out.trans (Tp.ofBelow v.below)) (.inr rfl) _⟩
          case measure => simp [intOf]; omega
    · go_wp2_with fail
      go_ret
      exact ⟨rfl, HBR.out⟩
end Go.Proofs.YtonlmhehddbhoaaDoor
