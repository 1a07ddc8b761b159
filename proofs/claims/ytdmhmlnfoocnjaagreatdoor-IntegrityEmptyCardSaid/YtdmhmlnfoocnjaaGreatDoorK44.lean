/-
  All violations of an instance.
-/
import Derived.Test.YtdmhmlnfoocnjaaGreatDoorK43
set_option linter.unusedVariables false
namespace Go.Proofs.YtdmhmlnfoocnjaaGreatDoor
open Go Go.RowKit Go.Deep
theorem errO_is (sl : Sl) (v : Int) (m : Nat) : (v ≠ 0 → errO sl v m = v) ∧ (v = 0 → m ≠ sl.len → errO sl v m = 9) ∧ (v = 0 → m = sl.len → errO sl v m = 0) := by
  unfold errO
  exact ⟨fun h => if_neg h, fun h h2 => by rw [if_pos h, if_neg h2], fun h h2 => by rw [if_pos h, if_pos h2]⟩
theorem lstO_is (sl : Sl) (tb : Nat → Tb) (t : Nat → Sl) (r : Nat → Nat → Sl) (f : Nat → Nat → Nat → Vl) (v : Int) (m : Nat) : (errO sl v m = 0 → lstO sl tb t r f v m = allO sl tb t r f) ∧ (errO sl v m ≠ 0 → lstO sl tb t r f v m = []) := by
  unfold lstO
  exact ⟨fun h => if_pos h, fun h => if_neg h⟩
theorem SlAt.grown {w w' : World} {k : Nat} {s : Sl} {c : Nat → List Value} {row : Option Nat} (h : SlAt w k s c) (hg : w.grownBy w' row) (hr : 0 < s.len → ∀ b off, s.a = some ⟨b, off, none⟩ → row ≠ some b) : SlAt w' k s c := by
  refine ⟨h.1, h.2.1, h.2.2.1, fun i hi => ?_⟩
  obtain ⟨b, off, ha, hlt, hc⟩ := h.2.2.2 i hi
  exact ⟨b, off, ha, Nat.lt_of_lt_of_le hlt hg.size, fun j hj => by rw [World.cell?_of_block (w := w) (hg.block b hlt (fun e => hr (by omega) b off ha e.symm))]; exact hc j hj⟩
theorem OwnO.tp {w w' : World} {base T : Nat} {v : Value} {L : List Vio} (h : OwnO w base v L) (ht : Tp T w w') (hT : ∀ g, v.ownBlock = some g → g ≠ T) : OwnO w' base v L := by
  refine ⟨h.1, h.2.imp id ?_⟩
  rintro ⟨g, cap, cur, hv, hg', hh, rest⟩
  exact ⟨g, cap, cur, hv, hg', (ht.block g (Array.getElem?_eq_some_iff.1 hh).1 (hT g (by rw [hv]; rfl))).trans hh, rest⟩
structure VSt (w wr : World) (base n j : Nat) (tb : Nat → Tb) (t : Nat → Sl) (r : Nat → Nat → Sl) (f : Nat → Nat → Nat → Vl) (iv : Nat → Value) (ds : Sl) (db : Nat) (dc : Array Value) (u : Value) (l : List Vio) : Prop where
  own : OwnO wr base u l
  ivs : ∀ k, j ≤ k → k < n → OwnO wr base (iv k) (rowsO (tb k) (r k) (f k) (t k).len)
  sep : ∀ k, j ≤ k → k < n → ∀ g, (iv k).ownBlock = some g → u.ownBlock ≠ some g
  dsl : SlAt wr 9 ds (xCs tb t r f iv)
  dsep : 0 < ds.len → ∀ b off, ds.a = some ⟨b, off, none⟩ → u.ownBlock ≠ some b
  dbx : wr.heap[db]? = some (.cells dc 70)
  bel : Below w.heap.size w wr
  lo : w.heap.size + 2 ≤ base
  hi : base ≤ wr.heap.size
section
variable {w wr : World} {base n j : Nat} {tb : Nat → Tb} {t : Nat → Sl} {r : Nat → Nat → Sl} {f : Nat → Nat → Nat → Vl} {iv : Nat → Value} {ds : Sl} {db : Nat} {dc : Array Value} {u : Value} {l : List Vio}
theorem VSt.later {w' : World} (h : VSt w wr base n j tb t r f iv ds db dc u l) (hb : Below wr.heap.size wr w') : VSt w w' base n j tb t r f iv ds db dc u l :=
  ⟨h.own.later hb, fun k h1 h2 => (h.ivs k h1 h2).later hb, h.sep, h.dsl.later hb, h.dsep, (hb.block _ (Array.getElem?_eq_some_iff.1 h.dbx).1).trans h.dbx, h.bel.trans (hb.mono h.bel.size), h.lo, Nat.le_trans h.hi hb.size⟩
theorem VSt.dlt (h : VSt w wr base n j tb t r f iv ds db dc u l) (h0 : 0 < ds.len) (b off : Nat) (ha : ds.a = some ⟨b, off, none⟩) : b < wr.heap.size := by
  obtain ⟨b', off', ha', hb, _⟩ := h.dsl.2.2.2 0 h0
  rw [ha] at ha'
  have : b = b' := by simpa using congrArg (Option.map Addr.block) ha'
  omega
theorem VSt.push {w3 : World} {u' : Value} {l' : List Vio} (h : VSt w wr base n j tb t r f iv ds db dc u l) (ho : OwnO w3 base u' l') (hg : wr.grownBy w3 u.ownBlock) (hat : u'.ownBlock = u.ownBlock ∨ u'.ownBlock = some wr.heap.size) : VSt w w3 base n j tb t r f iv ds db dc u' l' := by
  have hul := fun k hk => h.own.lt k hk
  refine ⟨ho, fun k h1 h2 => (h.ivs k h1 h2).kept hg ?_, fun k h1 h2 g hgg => ?_, h.dsl.grown hg fun h0 b off ha => h.dsep h0 b off ha, fun h0 b off ha => ?_, (hg.block _ (Array.getElem?_eq_some_iff.1 h.dbx).1 (fun e => own_ne_z h.own h.dbx (by decide) _ e.symm rfl)).trans h.dbx, Below.grown h.bel hg (Nat.le_trans (by have := h.lo; omega) h.hi) (fun k hk => by have := (hul k hk).1; have := h.lo; omega), h.lo, Nat.le_trans h.hi hg.size⟩
  · rcases hb : (iv k).ownBlock with _ | g
    · exact .inl rfl
    · exact .inr fun e => h.sep k h1 h2 g hb e.symm
  · rcases hat with e | e
    · rw [e]; exact h.sep k h1 h2 g hgg
    · rw [e]
      have := ((h.ivs k h1 h2).lt g hgg).2
      intro e2
      have := Option.some.inj e2
      omega
  · rcases hat with e | e
    · rw [e]; exact h.dsep h0 b off ha
    · rw [e]
      have := h.dlt h0 b off ha
      intro e2
      have := Option.some.inj e2
      omega
theorem VSt.call {w1 : World} {v : Value} (h : VSt w wr base n j tb t r f iv ds db dc u l) (hj : j < n) (hdn : ds.len = n) (hsep : ∀ k k', k < n → k' < n → k ≠ k' → ∀ g, (iv k).ownBlock = some g → (iv k').ownBlock ≠ some g) (hsd : ∀ b off, ds.a = some ⟨b, off, none⟩ → (iv j).ownBlock ≠ some b)
    (ht : Tp (blkOf (iv j) (wr.heap.size + 2)) wr w1) (hvs : v.ownBlock = (iv j).ownBlock ∨ ∀ g, v.ownBlock = some g → wr.heap.size ≤ g) : VSt w w1 base n (j + 1) tb t r f iv ds db dc u l ∧ ∀ g, v.ownBlock = some g → u.ownBlock ≠ some g := by
  have hT : ∀ g, g < wr.heap.size → (iv j).ownBlock ≠ some g → g ≠ blkOf (iv j) (wr.heap.size + 2) := fun g hg hne => by
    unfold blkOf
    rcases hv : (iv j).ownBlock with _ | x
    · show g ≠ wr.heap.size + 2
      omega
    · intro e
      exact hne (by rw [hv]; exact congrArg some e.symm)
  have hTb : base ≤ blkOf (iv j) (wr.heap.size + 2) := blk_ge (h.ivs j (Nat.le_refl _) hj) (by have := h.hi; omega)
  refine ⟨⟨h.own.tp ht fun g hg => hT g (h.own.lt g hg).2 fun e => h.sep j (Nat.le_refl _) hj g e hg, fun k h1 h2 => (h.ivs k (by omega) h2).tp ht fun g hg => hT g ((h.ivs k (by omega) h2).lt g hg).2 (hsep k j h2 hj (by omega) g hg), fun k h1 h2 => h.sep k (by omega) h2, ?_, h.dsep, (ht.block _ (Array.getElem?_eq_some_iff.1 h.dbx).1 (hT _ (Array.getElem?_eq_some_iff.1 h.dbx).1 fun e => own_ne_z (h.ivs j (Nat.le_refl _) hj) h.dbx (by decide) _ e rfl)).trans h.dbx, h.bel.trans (tp_low ht h.bel.size (by have := h.lo; omega)), h.lo, Nat.le_trans h.hi ht.size⟩, fun g hg => ?_⟩
  · by_cases h0 : 0 < ds.len
    · exact h.dsl.tp ht fun b off ha => hT b (h.dlt h0 b off ha) (hsd b off ha)
    · exact ⟨h.dsl.1, h.dsl.2.1, h.dsl.2.2.1, fun i hi => absurd hi (by omega)⟩
  · rcases hvs with e | e
    · rw [e] at hg
      exact h.sep j (Nat.le_refl _) hj g hg
    · intro e2
      have := e g hg
      have := (h.own.lt g e2).2
      omega
end
theorem tabO_len {sl : Sl} {tb : Nat → Tb} {t : Nat → Sl} {r : Nat → Nat → Sl} {f : Nat → Nat → Nat → Vl} {i : Nat} (hO : TbOk sl tb i) (hs : (t i).len ≤ 5000) : (tabO sl tb t r f i).length ≤ 95000 := by
  obtain ⟨h1, h2⟩ := tabO_is sl tb t r f i
  have a1 := rowsO_len (tb i) (r i) (f i) (t i).len hO.cs
  have a2 := keysO_len (tb i) (f i) (t i).len
  have a3 := forsO_len sl tb t r f i
  have a4 := chksO_len (tb i) (r i) (f i) (t i).len
  have b2 : (tb i).us.len * (t i).len ≤ 3 * 5000 := Nat.mul_le_mul hO.us hs
  have b3 : (tb i).fs.len * (t i).len ≤ 3 * 5000 := Nat.mul_le_mul hO.fs hs
  have b4 : (tb i).ks.len * (t i).len ≤ 4 * 5000 := Nat.mul_le_mul hO.ks hs
  cases hf : fitT tb t r f i
  · rw [h2 hf]; omega
  · rw [h1 hf, List.length_append, List.length_append, List.length_append]; omega
set_option maxHeartbeats 16000000 in
set_option maxRecDepth 20000 in
theorem Violations_calls (sl : Sl) (tb : Nat → Tb) (v : Int) (s : Sl) (t : Nat → Sl) (r : Nat → Nat → Sl) (f : Nat → Nat → Nat → Vl) (w : World) (h : TabsAt w sl tb) (hi : InsAt w s t r f) (ho : OpsTab w)
    (hv : ∀ W, Below w.heap.size w W → Calls Tryz.prog 27 #[.agg #[.slice sl.a sl.len sl.cap]] W fun e w' => e = .returned (.int .i64 v) ∧ Cls W w') (hok : v = 0 → sl.len ≤ 6 ∧ ∀ i, i < sl.len → TbOk sl tb i) (hs : ∀ k, k < s.len → (t k).len ≤ 5000) :
    Calls Tryz.prog 10 #[.agg #[.slice sl.a sl.len sl.cap], .agg #[.slice s.a s.len s.cap]] w fun e w' => ∃ a n c, e = .returned (.tuple #[.slice a n c, .int .i64 (errO sl v s.len)]) ∧ OwnO w' (w.heap.size + 2) (.slice a n c) (lstO sl tb t r f v s.len) ∧ Cls w w' := by
  have hle := h.1.1
  have hmax := h.1.2.1
  have hle2 := hi.tabs.1
  have hmax2 := hi.tabs.2.1
  unfold maxLen at hmax hmax2
  have CV := Lib.hid hv
  have CX : Hid (v = 0 → s.len = sl.len → ∀ W, Below w.heap.size w W → Calls Tryz.prog 28 #[.agg #[.slice sl.a sl.len sl.cap], .agg #[.slice s.a s.len s.cap]] W fun e w' => ∃ (ds : Sl) (iv : Nat → Value), e = .returned (.agg #[.slice sl.a sl.len sl.cap, .slice ds.a ds.len ds.cap]) ∧ ds.len = sl.len ∧ SlAt w' 9 ds (xCs tb t r f iv) ∧ DbAt w' (W.heap.size + 4) tb t r f iv sl.len ∧ (∀ k, k < sl.len → ∀ b off, ds.a = some ⟨b, off, none⟩ → (iv k).ownBlock ≠ some b) ∧ Cls W w') := Lib.hid fun h0 hn W hW => examined_calls sl tb s t r f W (h.later hW) (hi.later hW) hn (hok h0).1 (fun k hk => ((hok h0).2 k hk).cs) fun k hk => by have := hs k (by omega); omega
  have CW : Hid (v = 0 → s.len = sl.len → ∀ (ds : Sl) (iv : Nat → Value) (base i : Nat) (W : World), Below w.heap.size w W → w.heap.size ≤ base → base ≤ W.heap.size → SlAt W 9 ds (xCs tb t r f iv) → ds.len = sl.len → (∀ k, k < sl.len → ∃ a n c, iv k = .slice a n c) → OwnO W base (iv i) (rowsO (tb i) (r i) (f i) (t i).len) → (∀ b off, ds.a = some ⟨b, off, none⟩ → (iv i).ownBlock ≠ some b) → i < sl.len →
      Calls Tryz.prog 29 #[.agg #[.slice sl.a sl.len sl.cap, .slice ds.a ds.len ds.cap], .int .i64 (i : Nat)] W fun e w' => ∃ u, e = .returned u ∧ OwnO w' base u (tabO sl tb t r f i) ∧ Tp (blkOf (iv i) (W.heap.size + 2)) W w' ∧ (u.ownBlock = (iv i).ownBlock ∨ ∀ g, u.ownBlock = some g → W.heap.size ≤ g)) := Lib.hid fun h0 hn ds iv base i W hW hb hbw hds hdl hiv hown hsep hii => violations_calls sl tb s t r f ds iv i base w W h hi ho hW hb hbw hds hdl hn hiv hown hsep hii (hok h0).2 fun k hk => by have := hs k (by omega); omega
  have HTL : Hid (v = 0 → s.len = sl.len → ∀ i, i < sl.len → (tabO sl tb t r f i).length ≤ 95000) := Lib.hid fun h0 hn i hii => tabO_len ((hok h0).2 i hii) (hs i (by omega))
  have HN6 : Hid (v = 0 → sl.len ≤ 6) := Lib.hid fun h0 => (hok h0).1
  have HER := Lib.hid (errO_is sl v s.len)
  have HLS := Lib.hid (lstO_is sl tb t r f v s.len)
  have HA0 : Hid (catN (tabG sl tb t r f) 0 = []) := Lib.hid rfl
  have HAN : Hid (∀ j, catN (tabG sl tb t r f) (j + 1) = catN (tabG sl tb t r f) j ++ (tabO sl tb t r f j).map (Vio.tab (j : Nat))) := Lib.hid fun j => rfl
  have HAE : Hid (allO sl tb t r f = catN (tabG sl tb t r f) sl.len) := Lib.hid rfl
  have HCL : Hid (v = 0 → s.len = sl.len → ∀ j, j ≤ sl.len → (catN (tabG sl tb t r f) j).length ≤ j * 95000) := Lib.hid fun h0 hn j hj => catN_len fun i hi => by
    unfold tabG
    rw [List.length_map]
    exact HTL.out h0 hn i (by omega)
  clear h hi ho hv hok hs
  generalize lstO sl tb t r f v s.len = lo at *
  generalize errO sl v s.len = eo at *
  generalize allO sl tb t r f = al at *
  generalize catN (tabG sl tb t r f) = ct at *
  generalize tabO sl tb t r f = to at *
  obtain ⟨la, ln, lc⟩ := sl
  obtain ⟨sa, sn, sc⟩ := s
  simp only at hle hmax hle2 hmax2 CV CX CW HTL HN6 HER HAE HCL ⊢
  have hbl0 : ((w.alloc (.cells #[.slice la ln lc] 28)).alloc (.cells #[.slice sa sn sc] 32)).heap[w.heap.size]? = some (.cells #[.slice la ln lc] 28) := by
    rw [Below.heap_alloc _ _ _ (by simp)]
    exact heap_alloc_new w _
  have hbl1 : ((w.alloc (.cells #[.slice la ln lc] 28)).alloc (.cells #[.slice sa sn sc] 32)).heap[w.heap.size + 1]? = some (.cells #[.slice sa sn sc] 32) := by
    have := heap_alloc_new (w.alloc (.cells #[.slice la ln lc] 28)) (.cells #[.slice sa sn sc] 32)
    simpa using this
  have HL0 := Lib.hid hbl0
  have HL1 := Lib.hid hbl1
  have HB0 : Hid (Below w.heap.size w ((w.alloc (.cells #[.slice la ln lc] 28)).alloc (.cells #[.slice sa sn sc] 32))) := Lib.hid (by repeat first|with_reducible exact Below.refl _ _|with_reducible refine Below.setCell ?_ (by first|omega|(simp;done)|(simp;omega)) _|with_reducible refine Below.alloc ?_ (by first|omega|(simp;done)|(simp;omega)) _|with_reducible refine Below.drew ?_|with_reducible refine Ext.on _ ?_ (by first|omega|(simp;done)|(simp;omega)))
  have h0s : ((w.alloc (.cells #[.slice la ln lc] 28)).alloc (.cells #[.slice sa sn sc] 32)).heap.size = w.heap.size + 2 := by simp
  have h0a : w.heap.size < ((w.alloc (.cells #[.slice la ln lc] 28)).alloc (.cells #[.slice sa sn sc] 32)).heap.size := by omega
  have h0b : w.heap.size + 1 < ((w.alloc (.cells #[.slice la ln lc] 28)).alloc (.cells #[.slice sa sn sc] 32)).heap.size := by omega
  clear hbl0 hbl1
  have VARM : True := trivial
  by_cases hv0 : v = 0
  · subst hv0
    by_cases hn : sn = ln
    · subst hn
      have HE0 := Lib.hid (HER.out.2.2 rfl rfl)
      have HL := Lib.hid (HLS.out.1 HE0.out)
      have CX2 := Lib.hid (CX.out rfl rfl)
      have CW2 := Lib.hid (CW.out rfl rfl)
      have HT2 := Lib.hid (HTL.out rfl rfl)
      have HC2 := Lib.hid (HCL.out rfl rfl)
      have hn6 := HN6.out rfl
      clear CX CW HTL HCL HN6 HER HLS
      go_enter Tryz.func10, Tryz.ntmps10
      go_wp2_with (first | (go_at_call 27; ((with_reducible refine (CV.out _ HB0.out).mono ?_); rintro e _ ⟨rfl, y, rfl⟩; have ys := y.size; obtain ⟨l1, l2, l3, l4, l5⟩ := y.lts h0a; obtain ⟨l6, l7, l8, l9, l10⟩ := y.lts h0b)) | (go_at_call 28; ((with_reducible refine (CX2.out _ (y.on HB0.out (by omega))).mono ?_); rintro e w1 ⟨ds, iv, rfl, hdl, hds, hda, hdsep, z, rfl⟩; have HDL := Lib.hid hdl; have HDS := Lib.hid hds; have HDA := Lib.hid hda; have HDP := Lib.hid hdsep; clear hdl hds hda hdsep; have zs := z.size; obtain ⟨m1, m2, m3, m4, m5⟩ := z.lts l1; obtain ⟨m6, m7, m8, m9, m10⟩ := z.lts l6)))
      have HVS : Hid (VSt w (z.val.alloc (.cells #[.slice la sn lc, .slice ds.a ds.len ds.cap] 70)) (w.heap.size + 2) sn 0 tb t r f iv ds z.val.heap.size #[.slice la sn lc, .slice ds.a ds.len ds.cap] (.slice none 0 0) []) := Lib.hid (by
        have hb := (Below.refl z.val.heap.size z.val).alloc (Nat.le_refl _) (.cells #[.slice la sn lc, .slice ds.a ds.len ds.cap] 70)
        refine ⟨OwnO.nil _ _, fun k _ hk => ((HDA.out.own k hk).mono (by omega)).later hb, (fun k _ _ g _ e => by cases e), HDS.out.later hb, (fun _ b off _ e => by cases e), heap_alloc_new _ _, ((z.on (y.on HB0.out (by omega)) (by omega)).alloc (by omega) _), by omega, by simp; omega⟩)
      have HIV : Hid (∀ k, k < sn → ∃ a n c, iv k = .slice a n c) := Lib.hid fun k hk => (HDA.out.own k hk).slice
      have HSP := Lib.hid HDA.out.sep
      clear HDS HDA ys zs l1 l2 l3 l4 l5 l6 l7 l8 l9 l10 m1 m2 m3 m4 m5 m6 m7 m8 m9 m10 HL0 HL1 HB0 h0s h0a h0b CV CX2
      generalize (z.val.alloc (.cells #[.slice la sn lc, .slice ds.a ds.len ds.cap] 70)) = X at *
      generalize z.val.heap.size = db at *
      go_loopw [8, 30] (fun u p wr => ∃ (j : Nat) (l : List Vio), j ≤ sn ∧ p = .int .i64 j ∧ l = ct j ∧ VSt w wr (w.heap.size + 2) sn j tb t r f iv ds db #[.slice la sn lc, .slice ds.a ds.len ds.cap] u l) (fun _ p _ => sn - (intOf p).toNat)
      case atStart => exact ⟨0, [], Nat.zero_le _, rfl, HA0.out.symm, HVS.out⟩
      case round =>
        obtain ⟨j, l, hj, rfl, hl, hst⟩ := hrel
        have HST := Lib.hid hst
        have HLJ := Lib.hid hl
        have hln : l.length ≤ 6 * 95000 := by
          have h1 := HC2.out j hj
          rw [hl]
          exact Nat.le_trans h1 (Nat.mul_le_mul_right _ (Nat.le_trans hj hn6))
        clear hl HVS
        obtain ⟨d0, _, _, dc0, dc1⟩ := two_z hst.dbx
        by_cases hlt : j < sn
        · have D1 := Lib.hid (CW2.out ds iv (w.heap.size + 2) j wr hst.bel (by omega) hst.hi hst.dsl HDL.out HIV.out (hst.ivs j (Nat.le_refl _) hlt) (HDP.out j hlt) hlt)
          have hvl := HT2.out j hlt
          have HNX := Lib.hid (HAN.out j)
          clear hst CW2 HT2 HC2 HAN
          generalize to j = V at *
          go_wp2_with (go_at_call 29; ((with_reducible refine D1.out.mono ?_); rintro e w1 ⟨v, rfl, hov, htp, hvs⟩; obtain ⟨hs1, hs2⟩ := HST.out.call hlt HDL.out HSP.out (HDP.out j hlt) htp hvs; have HV := Lib.hid hov; have HS1 := Lib.hid hs1; have HS2 := Lib.hid hs2; clear hov htp hvs hs1 hs2; obtain ⟨va, vn, vc, ev⟩ := HV.out.slice; subst ev; have HVN := Lib.hid HV.out.at_.1; have hvc := HV.out.at_.2.1; have hvm := HV.out.at_.2.2.1; unfold maxLen at hvm))
          clear d0 dc0 dc1 D1 HST
          go_loopw [8, 37] (fun u q wr => ∃ (p : Nat), p ≤ vn ∧ q = .int .i64 p ∧ VSt w wr (w.heap.size + 2) sn (j + 1) tb t r f iv ds db #[.slice la sn lc, .slice ds.a ds.len ds.cap] u (l ++ (V.take p).map (Vio.tab (j : Nat))) ∧ OwnO wr (w.heap.size + 2) (.slice va vn vc) V ∧ ∀ g, (Value.slice va vn vc).ownBlock = some g → u.ownBlock ≠ some g) (fun _ q _ => vn - (intOf q).toNat)
          case atStart => exact ⟨0, Nat.zero_le _, rfl, by rw [List.take_zero, List.map_nil, List.append_nil]; exact HS1.out, HV.out, HS2.out⟩
          case round =>
            obtain ⟨p, hp, rfl, hst, hov, hsp⟩ := hrel
            have HS3 := Lib.hid hst
            have HV3 := Lib.hid hov
            have HP3 := Lib.hid hsp
            have HAT := Lib.hid hov.at_.2.2.2
            have HO3 := Lib.hid hst.own
            have hhi := hst.hi
            clear hst hov hsp
            by_cases hlt2 : p < vn
            · obtain ⟨g, ega, hg1, hg2, c0, c1, c2, c3, c4⟩ := HAT.out p hlt2
              subst ega
              have hRk : p < V.length := by have := HVN.out; omega
              have HTK : Hid (V.take (p + 1) = V.take p ++ [V.getD p ⟨0, 0, 0, 0, 0⟩]) := Lib.hid (by rw [List.take_succ_eq_append_getElem hRk]; simp [List.getD, hRk])
              have hlen : (l ++ (V.take p).map (Vio.tab (j : Nat))).length ≤ 7 * 95000 := by simp; omega
              generalize V.getD p ⟨0, 0, 0, 0, 0⟩ = vv at *
              obtain ⟨vk, vt, vi, vr, vo⟩ := vv
              simp only at c0 c1 c2 c3 c4
              go_wp2_with (at_builtin; refine append1_O rfl _ _ rfl (w.heap.size + 2) u8 (l ++ (V.take p).map (Vio.tab (j : Nat))) rfl (HO3.out.later (((Below.refl _ _).alloc (Nat.le_refl _) _).alloc (by simp) _)) ⟨wr.heap.size + 1, 0, none⟩ ⟨vk, (j : Nat), vi, vr, vo⟩ rfl (cells_atO _ _ (by simp) ⟨vk, (j : Nat), vi, vr, vo⟩ _) (by omega) (by simp; omega) ?_; intro v3 w3 hown3 hg3 hat3; have HO4 := Lib.hid hown3; have HG := Lib.hid hg3; have HA := Lib.hid hat3; clear hown3 hg3 hat3)
              go_roundw
              case rel =>
                have hbb : ∀ o1 o2, Below wr.heap.size wr ((wr.alloc o1).alloc o2) := fun o1 o2 => ((Below.refl _ _).alloc (Nat.le_refl _) _).alloc (by simp) _
                refine ⟨p + 1, by omega, by go_num, ?_, ?_, ?_⟩
                · rw [HTK.out, List.map_append, ← List.append_assoc]
                  exact (HS3.out.later (hbb _ _)).push HO4.out HG.out HA.out
                · exact OwnO.kept (HV3.out.later (hbb _ _)) HG.out (.inr fun e => HP3.out g rfl e.symm)
                · intro g' hg' e
                  have hgg : g = g' := by simpa [Value.ownBlock] using hg'
                  subst hgg
                  rcases HA.out with h1 | h1
                  · exact HP3.out g rfl (h1.symm.trans e)
                  · rw [h1] at e
                    have e2 := Option.some.inj e
                    simp at e2
                    omega
              case measure => simp [intOf]; omega
            · obtain rfl : p = vn := by omega
              have HFN : Hid (l ++ (V.take p).map (Vio.tab (j : Nat)) = ct (j + 1)) := Lib.hid (by rw [HNX.out, ← HLJ.out, List.take_of_length_le (by rw [← HVN.out]; omega)])
              go_wp2_with fail
              go_roundw
              case rel => exact ⟨j + 1, _, by omega, by go_num, HFN.out, HS3.out⟩
              case measure => simp [intOf]; omega
        · obtain rfl : j = sn := by omega
          obtain ⟨ua, un, uc, eu⟩ := hst.own.slice
          subst eu
          go_wp2_with fail
          go_ret2
          exact ⟨ua, un, uc, by rw [HE0.out]; rfl, by rw [HL.out, HAE.out, ← HLJ.out]; exact HST.out.own, Cls.of HST.out.bel⟩
    · have HV := Lib.hid (HER.out.2.1 rfl hn)
      have HLN := Lib.hid (HLS.out.2 (by rw [HV.out]; decide))
      have d1 : ((sn : Int) == (ln : Int)) = false := by simp; omega
      have d2 : ((sn : Int) != (ln : Int)) = true := by simp; omega
      have hn2 : ¬ ((sn : Int) = (ln : Int)) := by omega
      clear CX CW HTL HCL HN6 HER HLS hn
      go_enter Tryz.func10, Tryz.ntmps10
      go_wp2_with (go_at_call 27; ((with_reducible refine (CV.out _ HB0.out).mono ?_); rintro e _ ⟨rfl, y, rfl⟩; have ys := y.size; obtain ⟨l1, l2, l3, l4, l5⟩ := y.lts h0a; obtain ⟨l6, l7, l8, l9, l10⟩ := y.lts h0b))
      go_ret2
      exact ⟨none, 0, 0, by rw [HV.out]; rfl, by rw [HLN.out]; exact OwnO.nil _ _, Cls.of (y.on HB0.out (by omega))⟩
  · have d1 : (v == 0) = false := by simp [hv0]
    have d1' : (v != 0) = true := by simp [hv0]
    have HV := Lib.hid (HER.out.1 hv0)
    have HLN := Lib.hid (HLS.out.2 (by rw [HV.out]; exact hv0))
    clear CX CW HTL HCL HN6 HER HLS hv0
    go_enter Tryz.func10, Tryz.ntmps10
    go_wp2_with (go_at_call 27; ((with_reducible refine (CV.out _ HB0.out).mono ?_); rintro e _ ⟨rfl, y, rfl⟩; have ys := y.size; obtain ⟨l1, l2, l3, l4, l5⟩ := y.lts h0a; obtain ⟨l6, l7, l8, l9, l10⟩ := y.lts h0b))
    go_ret2
    exact ⟨none, 0, 0, by rw [HV.out]; rfl, by rw [HLN.out]; exact OwnO.nil _ _, Cls.of (y.on HB0.out (by omega))⟩
end Go.Proofs.YtdmhmlnfoocnjaaGreatDoor
set_option linter.unusedVariables false
namespace Go.Proofs.YtdmhmlnfoocnjaaGreatDoor
open Go Go.RowKit Go.Deep
set_option maxHeartbeats 4000000 in
set_option maxRecDepth 20000 in
theorem iValid_calls (sl : Sl) (tb : Nat → Tb) (v : Int) (s : Sl) (t : Nat → Sl) (r : Nat → Nat → Sl) (f : Nat → Nat → Nat → Vl) (w : World) (h : TabsAt w sl tb) (hi : InsAt w s t r f) (ho : OpsTab w)
    (hv : ∀ W, Below w.heap.size w W → Calls Tryz.prog 27 #[.agg #[.slice sl.a sl.len sl.cap]] W fun e w' => e = .returned (.int .i64 v) ∧ Cls W w') (hok : v = 0 → sl.len ≤ 6 ∧ ∀ i, i < sl.len → TbOk sl tb i) (hs : ∀ k, k < s.len → (t k).len ≤ 5000) :
    Calls Tryz.prog 13 #[.agg #[.slice sl.a sl.len sl.cap], .agg #[.slice s.a s.len s.cap]] w fun e w' => e = .returned (.bool ((errO sl v s.len == 0) && ((lstO sl tb t r f v s.len).length == 0))) ∧ Cls w w' := by
  have C1 : Hid (∀ W, Below w.heap.size w W → Calls Tryz.prog 10 #[.agg #[.slice sl.a sl.len sl.cap], .agg #[.slice s.a s.len s.cap]] W fun e w' => ∃ a n c, e = .returned (.tuple #[.slice a n c, .int .i64 (errO sl v s.len)]) ∧ OwnO w' (W.heap.size + 2) (.slice a n c) (lstO sl tb t r f v s.len) ∧ Cls W w') := Lib.hid fun W hW => Violations_calls sl tb v s t r f W (h.later hW) (hi.later hW) (ho.later hW) (fun W2 hW2 => hv W2 (hW.trans (hW2.mono hW.size))) hok hs
  clear h hi ho hv hok hs
  generalize lstO sl tb t r f v s.len = L at *
  generalize errO sl v s.len = eo at *
  obtain ⟨la, ln, lc⟩ := sl
  obtain ⟨sa, sn, sc⟩ := s
  simp only at C1 ⊢
  have HB0 : Hid (Below w.heap.size w ((w.alloc (.cells #[.slice la ln lc] 28)).alloc (.cells #[.slice sa sn sc] 32))) := Lib.hid (by repeat first|with_reducible exact Below.refl _ _|with_reducible refine Below.setCell ?_ (by first|omega|(simp;done)|(simp;omega)) _|with_reducible refine Below.alloc ?_ (by first|omega|(simp;done)|(simp;omega)) _|with_reducible refine Below.drew ?_|with_reducible refine Ext.on _ ?_ (by first|omega|(simp;done)|(simp;omega)))
  by_cases he : eo = 0
  · subst he
    go_enter Tryz.func13, Tryz.ntmps13
    go_wp2_with (go_at_call 10; ((with_reducible refine (C1.out _ HB0.out).mono ?_); rintro e w1 ⟨ua, un, uc, rfl, hov, y, rfl⟩; have HN := Lib.hid hov.at_.1; have huc := hov.at_.2.1; have hum := hov.at_.2.2.1; unfold maxLen at hum; clear hov; have ys := y.size; simp at ys))
    all_goals
      go_ret
      refine ⟨ret_bool ?_, Cls.of (y.on HB0.out (by simp; omega))⟩
      have h1 := HN.out
      subst h1
      rcases L with _ | ⟨x, L⟩
      · rfl
      · have e1 : ((((x :: L).length : Nat) : Int) == 0) = false := by simp; omega
        rw [e1]
        rfl
  · have d1 : (eo == 0) = false := by simp [he]
    go_enter Tryz.func13, Tryz.ntmps13
    go_wp2_with (go_at_call 10; ((with_reducible refine (C1.out _ HB0.out).mono ?_); rintro e w1 ⟨ua, un, uc, rfl, hov, y, rfl⟩; have HN := Lib.hid hov.at_.1; have huc := hov.at_.2.1; have hum := hov.at_.2.2.1; unfold maxLen at hum; clear hov; have ys := y.size; simp at ys))
    go_ret
    exact ⟨ret_bool (by rw [d1]; rfl), Cls.of (y.on HB0.out (by simp; omega))⟩
end Go.Proofs.YtdmhmlnfoocnjaaGreatDoor
