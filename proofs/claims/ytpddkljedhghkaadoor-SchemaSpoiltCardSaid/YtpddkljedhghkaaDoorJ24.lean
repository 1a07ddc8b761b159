/-
  The tables that each table's foreign keys name, as a map: the program's references. The program's Order.
-/
import Derived.Test.YtpddkljedhghkaaDoorJ23
import Derived.Maps.OwnOps
set_option linter.unusedVariables false
namespace Go.Proofs.YtpddkljedhghkaaDoor
open Go Go.RowKit Go.Deep
def RefsIs (sl : Sl) (tb : Nat → Tb) (w : World) (r : Ending) (w' : World) : Prop :=
  (¬ allT sl tb ∧ r = .returned (.tuple #[.map none, .bool false]) ∧ Cls w w') ∨
  (allT sl tb ∧ ∃ (B c : Nat) (s : Nat → Sl) (f : Nat → Option Value), r = .returned (.tuple #[.map (some B), .bool true]) ∧ w.heap.size ≤ B ∧ MapIs w' B c sl.len f ∧ RowsAt sl tb f s w' ∧ (∀ k, (f k).isSome = decide (k < sl.len)) ∧ Cls w w')
/-- Ahead of round j of the outer loop. -/
def RefA (sl : Sl) (tb : Nat → Tb) (B j : Nat) (W0 wr : World) : Prop :=
  ∃ (c : Nat) (s : Nat → Sl) (f : Nat → Option Value), c ≤ 20 * j ∧ MapIs wr B c j f ∧ RowsAt sl tb f s wr ∧ (∀ k, (f k).isSome = decide (k < j)) ∧ (∀ i, i < j → ∀ k, k < (tb i).fs.len → tgtB sl tb (i : Nat) (k : Nat) = true) ∧ Tp B W0 wr
/-- Ahead of round k of the inner loop. -/
def RefB (sl : Sl) (tb : Nat → Tb) (B c j k : Nat) (f : Nat → Option Value) (W1 wr : World) : Prop :=
  ∃ (c' : Nat) (v : Value), c' ≤ c + k ∧ Tp B W1 wr ∧ MapIs wr B c' (j + 1) (upd f j (some v)) ∧ wr.ownsRow W1.heap.size 3 1 v k (flatN (tgL sl tb j k)) ∧ (∀ i, i < k → tgtB sl tb (j : Nat) (i : Nat) = true)
theorem refA_of {sl : Sl} {tb : Nat → Tb} {B c c' j : Nat} {f : Nat → Option Value} {s : Nat → Sl} {W0 wr W1 wr2 : World} {v : Value} (hj : j < sl.len) (hn : sl.len ≤ 10) (hfl : (tb j).fs.len ≤ 8) (hc : c ≤ 20 * j) (hm : MapIs wr B c j f) (hr : RowsAt sl tb f s wr) (hs : ∀ k, (f k).isSome = decide (k < j))
    (ha : ∀ i, i < j → ∀ k, k < (tb i).fs.len → tgtB sl tb (i : Nat) (k : Nat) = true) (ht : Tp B W0 wr) (h1 : Tp B wr W1) (hc' : c' ≤ c + 1 + (tb j).fs.len) (h2 : Tp B W1 wr2) (hm2 : MapIs wr2 B c' (j + 1) (upd f j (some v))) (ho : wr2.ownsRow W1.heap.size 3 1 v (tb j).fs.len (flatN (tgL sl tb j (tb j).fs.len)))
    (hk : ∀ i, i < (tb j).fs.len → tgtB sl tb (j : Nat) (i : Nat) = true) : RefA sl tb B (j + 1) W0 wr2 := by
  obtain ⟨sv, hv, hsl, hsat⟩ := sl_ofN ho (tgL_len sl tb j _)
  refine ⟨c', fun k => if k = j then sv else s k, upd f j (some v), by omega, hm2, fun k hkl => ?_, fun k => ?_, fun i hi k hkf => ?_, (ht.trans h1).trans h2⟩
  · by_cases e : k = j
    · subst e
      right
      simp only [if_pos]
      exact ⟨by rw [upd_at, hv], hsl, hsat.congr_z fun i hi => by rw [tgL_at (by omega)]⟩
    · rw [upd_ne e]
      simp only [if_neg e]
      exact (hr k hkl).imp id fun ⟨a1, a2, a3⟩ => ⟨a1, a2, a3.turn hm (h1.trans h2)⟩
  · by_cases e : k = j
    · subst e
      rw [upd_at]
      simp
    · rw [upd_ne e, hs k]
      by_cases h3 : k < j
      · simp [h3, Nat.lt_succ_of_lt h3]
      · have h4 : ¬ k < j + 1 := by omega
        simp [h3, h4]
  · by_cases e : i = j
    · subst e
      exact hk k hkf
    · exact ha i (by omega) k hkf
set_option maxHeartbeats 8000000 in
set_option maxRecDepth 20000 in
theorem refs_calls (sl : Sl) (tb : Nat → Tb) (w : World) (h : TabsAt w sl tb) (hn : sl.len ≤ 10) (hf : ∀ i, i < sl.len → (tb i).fs.len ≤ 8) :
    Calls Tryd.prog 103 #[.agg #[.slice sl.a sl.len sl.cap]] w (RefsIs sl tb w) := by
  have hle := h.1.1
  have hmax := h.1.2.1
  unfold maxLen at hmax
  have H := Lib.hid h
  have HF := Lib.hid hf
  have hmm := @run_makeMap Tryd.prog
  have HB0 : Hid (Below w.heap.size w ((w.alloc (.cells #[.slice sl.a sl.len sl.cap] 45)).alloc (.map #[] 0))) := Lib.hid (by repeat first | with_reducible exact Below.refl _ _ | with_reducible refine Below.setCell ?_ (by first | omega | (simp; done) | (simp; omega)) _ | with_reducible refine Below.alloc ?_ (by first | omega | (simp; done) | (simp; omega)) _ | with_reducible refine Below.drew ?_ | with_reducible refine Ext.on _ ?_ (by first | omega | (simp; done) | (simp; omega)))
  have H1 : Hid (((w.alloc (.cells #[.slice sl.a sl.len sl.cap] 45)).alloc (.map #[] 0)).heap[w.heap.size]? = some (.cells #[.slice sl.a sl.len sl.cap] 45)) := Lib.hid ((Below.heap_alloc _ _ _ (by simp)).trans (heap_alloc_new w _))
  have hM0 := MapIs.made (w.alloc (.cells #[.slice sl.a sl.len sl.cap] 45))
  have hsz : (w.alloc (.cells #[.slice sl.a sl.len sl.cap] 45)).heap.size = w.heap.size + 1 := by simp
  rw [hsz] at hM0
  have HM0 := Lib.hid hM0
  clear h hf hM0 hsz
  generalize hsl : sl.len = sn at hle hmax hn H1 HB0 HM0
  generalize hsa0 : sl.a = sa at H1 HB0 HM0
  have HSA := Lib.hid hsa0
  clear hsa0
  go_enter Tryd.func103, Tryd.ntmps103
  go_wp2_with fail
  have hs0 : w.heap.size + 2 ≤ ((w.alloc (.cells #[.slice sa sn sl.cap] 45)).alloc (.map #[] 0)).heap.size := by simp
  generalize ((w.alloc (.cells #[.slice sa sn sl.cap] 45)).alloc (.map #[] 0)) = W0 at H1 HB0 HM0 hs0 ⊢
  go_loopw [14] (fun i wr => ∃ j : Nat, j ≤ sn ∧ i = .int .i64 (j : Nat) ∧ RefA sl tb (w.heap.size + 1) j W0 wr) (fun i _ => sn - (intOf i).toNat)
  case atStart => exact ⟨0, Nat.zero_le _, rfl, 0, fun _ => Sl.z, fun _ => none, Nat.le_refl _, HM0.out, fun j hj => .inl rfl, fun k => by simp, fun i hi => absurd hi (Nat.not_lt_zero _), Tp.refl _ _⟩
  case round =>
    obtain ⟨j, hj, rfl, c, s, f, hc, hm, hr, hs, ha, ht⟩ := hrel
    have HM := Lib.hid hm
    have HR := Lib.hid hr
    have HS := Lib.hid hs
    have HA := Lib.hid ha
    have HT := Lib.hid ht
    have hsz := ht.size
    have hBl := hm.lt
    have hbe : Below w.heap.size w wr := HB0.out.trans ((ht.toBelow (B := w.heap.size) (by omega) (by omega)))
    have HBE := Lib.hid hbe
    obtain ⟨b1, _, k1⟩ := one_z ((ht.block w.heap.size (by omega) (by omega)).trans H1.out)
    clear hm hr hs ha
    by_cases hltj : j < sn
    · obtain ⟨b, off, hsa, hb2, hcl⟩ := H.out.1.2.2.2 j (by omega)
      rw [HSA.out] at hsa
      subst hsa
      have hTb := Lib.hid (H.out.2 j (by omega))
      have hfl8 := HF.out j (by omega)
      have q0 := hcl 0 (by omega)
      have q1 := hcl 1 (by omega)
      have q2 := hcl 2 (by omega)
      have q3 := hcl 3 (by omega)
      have q4 := hcl 4 (by omega)
      have q5 := hcl 5 (by omega)
      rw [← hbe.cell (p := ⟨b, _, none⟩) hb2] at q0 q1 q2 q3 q4 q5
      have hb3 : b < wr.heap.size := by omega
      simp only [Tb.cells, Sl.v, List.getElem?_cons_zero, List.getElem?_cons_succ, Nat.add_zero] at q0 q1 q2 q3 q4 q5
      clear hcl ht hbe
      have HX : Hid ((wr.alloc (.cells #[.string (tb j).name, .slice (tb j).cs.a (tb j).cs.len (tb j).cs.cap, .slice (tb j).ps.a (tb j).ps.len (tb j).ps.cap, .slice (tb j).us.a (tb j).us.len (tb j).us.cap, .slice (tb j).fs.a (tb j).fs.len (tb j).fs.cap, .slice (tb j).ks.a (tb j).ks.len (tb j).ks.cap] 53)).heap[wr.heap.size]? = some (.cells #[.string (tb j).name, .slice (tb j).cs.a (tb j).cs.len (tb j).cs.cap, .slice (tb j).ps.a (tb j).ps.len (tb j).ps.cap, .slice (tb j).us.a (tb j).us.len (tb j).us.cap, .slice (tb j).fs.a (tb j).fs.len (tb j).fs.cap, .slice (tb j).ks.a (tb j).ks.len (tb j).ks.cap] 53)) := Lib.hid (heap_alloc_new wr _)
      have HM1 : Hid (MapIs (wr.alloc (.cells #[.string (tb j).name, .slice (tb j).cs.a (tb j).cs.len (tb j).cs.cap, .slice (tb j).ps.a (tb j).ps.len (tb j).ps.cap, .slice (tb j).us.a (tb j).us.len (tb j).us.cap, .slice (tb j).fs.a (tb j).fs.len (tb j).fs.cap, .slice (tb j).ks.a (tb j).ks.len (tb j).ks.cap] 53)) (w.heap.size + 1) c j f) := Lib.hid (HM.out.later ((Below.refl _ _).alloc (Nat.le_refl _) _))
      have HFN : Hid ((f j).isSome = false) := Lib.hid (by rw [HS.out j]; simp)
      go_wp2_with (at_mapUpdate; refine wpList_store_z _ rfl _ _ _ rfl (w.heap.size + 1) c j f rfl HM1.out (by unfold maxLen; omega) j (by omega) nilV rfl rfl .nil codeR_nil ?_; intro w1 hm1 hg1; rw [if_neg (by rw [HFN.out]; exact Bool.false_ne_true)] at hm1; have HM1 := Lib.hid hm1; have HG1 := Lib.hid hg1; have w1s := hg1.size; simp at w1s; have hx1 := (hg1.block wr.heap.size (by simp) (by simp; omega)).trans HX.out; obtain ⟨bx, _, _, _, _, _, _, c0, c1, c2, c3, c4, c5⟩ := six_z hx1; clear hm1 hg1)
      have HP1 : Hid (Tp (w.heap.size + 1) wr w1) := Lib.hid (Tp.turn ((Tp.refl _ _).alloc _) HG1.out)
      have HB1 : Hid (w1.heap[w.heap.size]? = some (.cells #[.slice (some ⟨b, off, none⟩) sn sl.cap] 45)) := Lib.hid ((HP1.out.block w.heap.size (by omega) (by omega)).trans ((HT.out.block w.heap.size (by omega) (by omega)).trans H1.out))
      have HBE1 : Hid (Below w.heap.size w w1) := Lib.hid (HBE.out.trans (HP1.out.toBelow (by omega) (by omega)))
      clear hx1 c0 c1 c2 c3 c4 c5 q0 q1 q2 q3 q4 q5 HX HG1 k1
      generalize hfln : (tb j).fs.len = fln at hfl8 ⊢
      go_loopw [24] (fun i wr2 => ∃ k : Nat, k ≤ fln ∧ i = .int .i64 (k : Nat) ∧ RefB sl tb (w.heap.size + 1) (c + 1) j k f w1 wr2) (fun i _ => fln - (intOf i).toNat)
      case atStart => exact ⟨0, Nat.zero_le _, rfl, c + 1, nilV, Nat.le_refl _, Tp.refl _ _, HM1.out, World.ownsRow_nil _ _ _ 1, fun i hi => absurd hi (Nat.not_lt_zero _)⟩
      case round =>
        obtain ⟨k, hk, rfl, c', v, hc', ht2, hm2, ho, hok⟩ := hrel
        have HM2 := Lib.hid hm2
        have HT2 := Lib.hid ht2
        have HO := Lib.hid ho
        have HOK := Lib.hid hok
        have hsz2 := ht2.size
        have HBE2 : Hid (Below w.heap.size w wr) := Lib.hid (HBE1.out.trans (ht2.toBelow (by omega) (by omega)))
        obtain ⟨bs1, _, k1⟩ := one_z ((ht2.block w.heap.size (by omega) (by omega)).trans HB1.out)
        clear hm2 ht2 ho hok
        by_cases hltk : k < fln
        · have C1 : Hid (∀ W, Below w.heap.size w W → Calls Tryd.prog 101 #[.agg #[.slice (some ⟨b, off, none⟩) sn sl.cap], .int .i64 (j : Nat), .int .i64 (k : Nat)] W fun r w' => r = .returned (.tuple #[.int .i64 (tgN sl tb j k : Nat), .bool (tgtB sl tb (j : Nat) (k : Nat))]) ∧ Cls W w') := Lib.hid (fun W hW => by
            have h1 := Target_calls sl tb (j : Nat) (k : Nat) W (H.out.later hW)
            rw [tgt_nat, HSA.out, hsl] at h1
            exact h1)
          obtain ⟨i0, hi, hz0, hz1, hz2⟩ := info_parts infoI_z
          cases hbb : tgtB sl tb (j : Nat) (k : Nat)
          all_goals
            have HBB := Lib.hid hbb
            rw [hbb] at C1
            clear hbb
          · go_wp2_with (go_at_call 101; ((with_reducible refine (C1.out _ HBE2.out).mono ?_); rintro r _ ⟨rfl, y, rfl⟩))
            go_ret2
            refine .inl ⟨fun hall => ?_, rfl, Cls.of (HBE2.out.trans (y.below.mono HBE2.out.size))⟩
            have := hall j (by omega) k (by omega)
            rw [HBB.out] at this
            cases this
          · have HG : Hid (flatN (tgL sl tb j (k + 1)) = flatN (tgL sl tb j k) ++ [.int .i64 (tgN sl tb j k : Nat)]) := Lib.hid (by rw [tgL_go, flatN_go])
            generalize tgN sl tb j k = tt at C1 HG
            go_wp2_with (first | (go_at_call 101; ((with_reducible refine (C1.out _ HBE2.out).mono ?_); rintro r _ ⟨rfl, y, rfl⟩; have ys := y.size; have hkl := (HM2.out.later y.below).look (j := j) (by omega); rw [upd_at] at hkl)) | (at_builtin; refine wpList_append_own_at _ rfl _ _ 22 rfl w1.heap.size 3 i0 (.int .i64 0) 1 8 Tryd.underlying22 hi hz0 hz1 hz2 rfl (by decide) _ k (flatN (tgL sl tb j k)) rfl (own_later_z (own_later_z HO.out y.below) ((Below.refl _ _).alloc (Nat.le_refl _) _)) ⟨y.val.heap.size, 0, none⟩ 1 1 [.int .i64 (tt : Nat)] rfl rfl (cells_new_z _ _ _ (by simp)) (int_one_z _) (by unfold maxLen; omega) (by omega) (by simp; omega) ?_; intro v3 w3 hown3 hg3 _ hat3; change World.grownBy _ _ v.ownBlock at hg3; obtain ⟨g3, cp3, rfl⟩ := own_slice_z hown3; have HO3 := Lib.hid hown3; have HG3 := Lib.hid hg3; have HM3 := Lib.hid (((HM2.out.later y.below).later ((Below.refl _ _).alloc (Nat.le_refl _) (.cells #[.int .i64 (tt : Nat)] 3))).grown hg3 (fun e => own_not_map HO.out HM2.out _ e.symm rfl)); clear hown3 hg3 hat3) | (at_mapUpdate; refine wpList_store_z _ rfl _ _ _ rfl (w.heap.size + 1) c' (j + 1) (upd f j (some v)) rfl HM3.out (by unfold maxLen; omega) j (by omega) (.slice (some ⟨g3, 0, none⟩) (k + 1) cp3) rfl rfl _ (codeR_some _ _ _) ?_; intro w4 hm4 hg4; have HM4 := Lib.hid hm4; have HG4 := Lib.hid hg4; clear hm4 hg4))
            refine ⟨⟨k + 1, by omega, by go_num, c' + 1, .slice (some ⟨g3, 0, none⟩) (k + 1) cp3, by omega, Tp.turn (((HT2.out.trans (Tp.ofBelow y.below)).alloc _).grown HG3.out (fun q hq => (HO.out.lt q hq).1)) HG4.out, HM4.out.congr (by rw [upd_at]; rfl) (fun i _ => by unfold upd; split <;> rfl), ?_, fun i hi => ?_⟩, by simp [intOf]; omega⟩
            · rw [HG.out]
              exact own_turn HO3.out HG4.out (own_not_map HO3.out HM3.out)
            · by_cases e : i = k
              · subst e; exact HBB.out
              · exact HOK.out i (by omega)
        · have hkk : k = fln := by omega
          subst hkk
          subst hfln
          go_wp2_with fail
          go_roundw
          case rel => exact ⟨j + 1, by omega, by go_num, refA_of (by omega) (by omega) hfl8 hc HM.out HR.out HS.out HA.out HT.out HP1.out hc' HT2.out HM2.out HO.out HOK.out⟩
          case measure => simp [intOf]; omega
    · have hjn : j = sn := by omega
      subst hjn
      go_wp2_with fail
      go_ret2
      refine .inr ⟨fun i hi k hk => HA.out i (by omega) k hk, w.heap.size + 1, c, s, f, rfl, by omega, by rw [hsl]; exact HM.out, HR.out, fun k => by rw [HS.out k, hsl], Cls.of HBE.out⟩
end Go.Proofs.YtpddkljedhghkaaDoor
set_option linter.unusedVariables false
namespace Go.Proofs.YtpddkljedhghkaaDoor
open Go Go.RowKit Go.Deep
theorem good_all {l : List Nat} {g : Nat → Nat} : ∀ n, ((List.range n).map g).all (fun t => l.contains t) = true ↔ ∀ k, k < n → l.contains (g k) = true := by
  intro n
  rw [List.all_eq_true]
  constructor
  · intro h k hk
    exact h (g k) (List.mem_map.2 ⟨k, List.mem_range.2 hk, rfl⟩)
  · intro h t ht
    obtain ⟨k, hk, rfl⟩ := List.mem_map.1 ht
    exact h k (List.mem_range.1 hk)
theorem goodF_eq {sl : Sl} {tb : Nat → Tb} {f : Nat → Option Value} {l : List Nat} (hall : allT sl tb) (hs : ∀ i, (f i).isSome = (decide (i < sl.len) && !l.contains i)) {i : Nat} (hi : i < sl.len) : goodF sl tb f i = good sl tb l i := by
  have h1 : (f i).isSome = !l.contains i := by rw [hs i]; simp [hi]
  have h2 : (!decide (0 ≤ idx (fun k => (f (tgN sl tb i k)).isSome) 0 (tb i).fs.len)) = (tgL sl tb i (tb i).fs.len).all fun t => l.contains t := by
    have h3 := idx_none (p := fun k => (f (tgN sl tb i k)).isSome) (tb i).fs.len 0
    have h4 := good_all (l := l) (g := tgN sl tb i) (tb i).fs.len
    by_cases h5 : idx (fun k => (f (tgN sl tb i k)).isSome) 0 (tb i).fs.len < 0
    · have h6 := h3.1 h5
      have h7 := h4.2 fun k hk => by
        have := h6 k (Nat.zero_le _) (by omega)
        rw [hs] at this
        have hlt := tg_lt (hall i hi k hk)
        simpa [hlt] using this
      have h8 : decide (0 ≤ idx (fun k => (f (tgN sl tb i k)).isSome) 0 (tb i).fs.len) = false := by simp; omega
      rw [h8]
      exact h7.symm
    · have h8 : decide (0 ≤ idx (fun k => (f (tgN sl tb i k)).isSome) 0 (tb i).fs.len) = true := by simp; omega
      rw [h8]
      symm
      show ((List.range (tb i).fs.len).map (tgN sl tb i)).all (fun t => l.contains t) = false
      by_cases h9 : ((List.range (tb i).fs.len).map (tgN sl tb i)).all (fun t => l.contains t) = true
      · exfalso
        refine h5 (h3.2 fun k _ hk => ?_)
        have := h4.1 h9 k (by omega)
        rw [hs, this]
        simp
      · simpa using h9
  unfold goodF good
  rw [h1, h2]
def lenV : Value → Nat
  | .slice _ n _ => n
  | _ => 0
theorem own_lenV {w : World} {base size n : Nat} {e : TypeId} {v : Value} {xs : List Value} (h : w.ownsRow base e size v n xs) : lenV v = n := by
  rcases h.2 with ⟨rfl, h0⟩ | ⟨g, cap, cur, rfl, _⟩
  · exact h0.symm
  · rfl
/-- Ahead of a round of the loop. -/
def OrdA (sl : Sl) (tb : Nat → Tb) (f0 : Nat → Option Value) (B : Nat) (W1 : World) (u : Value) (wr : World) : Prop :=
  ∃ (k m c : Nat) (f : Nat → Option Value), k + m = sl.len ∧ MapIs wr B c m f ∧ (∀ j, j < sl.len → f j = f0 j ∨ f j = none) ∧ (∀ i, (f i).isSome = (decide (i < sl.len) && !(ordL sl tb k).contains i)) ∧ (ordL sl tb k).length = k ∧ wr.ownsRow W1.heap.size 3 1 u k (flatN (ordL sl tb k)) ∧ Tp B W1 wr
set_option maxHeartbeats 8000000 in
set_option maxRecDepth 20000 in
theorem Order_calls (sl : Sl) (tb : Nat → Tb) (w : World) (h : TabsAt w sl tb) (hn : sl.len ≤ 10) (hf : ∀ i, i < sl.len → (tb i).fs.len ≤ 8) :
    Calls Tryd.prog 57 #[.agg #[.slice sl.a sl.len sl.cap]] w (OrdIs sl tb w) := by
  have hb0 : Below w.heap.size w (w.alloc (.cells #[.slice sl.a sl.len sl.cap] 45)) := (Below.refl _ _).alloc (Nat.le_refl _) _
  have C1 := Lib.hid (refs_calls sl tb (w.alloc (.cells #[.slice sl.a sl.len sl.cap] 45)) (h.later hb0) hn hf)
  have H := Lib.hid h
  have H1 : Hid ((w.alloc (.cells #[.slice sl.a sl.len sl.cap] 45)).heap[w.heap.size]? = some (.cells #[.slice sl.a sl.len sl.cap] 45)) := Lib.hid (heap_alloc_new w _)
  clear h hb0 hf
  generalize hsn : sl.len = sn at hn C1 H1
  go_enter Tryd.func57, Tryd.ntmps57
  go_wp2_with (go_at_call 103; ((with_reducible refine C1.out.mono ?_); rintro r w1 hq; rcases hq with ⟨hno, rfl, x, rfl⟩ | ⟨hall, B, c, s, f, rfl, hB, hm, hr, hs, x, rfl⟩))
  · go_ret2
    refine .inl ⟨hno, rfl, Cls.of ?_⟩
    repeat first | with_reducible exact Below.refl _ _ | with_reducible refine Below.setCell ?_ (by first | omega | (simp; done) | (simp; omega)) _ | with_reducible refine Below.alloc ?_ (by first | omega | (simp; done) | (simp; omega)) _ | with_reducible refine Below.drew ?_ | with_reducible refine Ext.on _ ?_ (by first | omega | (simp; done) | (simp; omega))
  · have HBW : Hid (Below w.heap.size w x.val) := Lib.hid (by repeat first | with_reducible exact Below.refl _ _ | with_reducible refine Below.setCell ?_ (by first | omega | (simp; done) | (simp; omega)) _ | with_reducible refine Below.alloc ?_ (by first | omega | (simp; done) | (simp; omega)) _ | with_reducible refine Below.drew ?_ | with_reducible refine Ext.on _ ?_ (by first | omega | (simp; done) | (simp; omega)))
    have H2 : Hid (x.val.heap[w.heap.size]? = some (.cells #[.slice sl.a sn sl.cap] 45)) := Lib.hid ((x.below.block _ (by simp)).trans H1.out)
    have hB2 : w.heap.size + 1 ≤ B := by simpa using hB
    have hs0 : OrdA sl tb f B x.val nilV x.val := ⟨0, sl.len, c, f, by omega, hm, fun j _ => .inl rfl, fun i => by rw [hs i]; simp [ordL], rfl, World.ownsRow_nil _ _ _ 1, Tp.refl _ _⟩
    have HS0 := Lib.hid hs0
    have HAll := Lib.hid hall
    have HR0 := Lib.hid hr
    have HM0 := Lib.hid hm
    have hxs : w.heap.size + 1 ≤ x.val.heap.size := by have := x.size; simpa using this
    have hBl := hm.lt
    clear hs0 hall hm hr hs hB C1 H1
    generalize x.val = W1 at HBW H2 HS0 HR0 HM0 hxs hBl ⊢
    go_loopw [6] (fun u wr => OrdA sl tb f B W1 u wr) (fun u _ => sn - lenV u)
    case atStart => exact HS0.out
    case round =>
      obtain ⟨k, m, c', f', hkm, hm, hff, hs, hl, ho, ht⟩ := hrel
      have hr := HR0.out.turn HM0.out ht hff
      have HFF := Lib.hid hff
      clear hff
      have HM := Lib.hid hm
      have HR := Lib.hid hr
      have HS := Lib.hid hs
      have HL := Lib.hid hl
      have HO := Lib.hid ho
      have HT := Lib.hid ht
      have hsz := ht.size
      have hlm := hm.len 3
      obtain ⟨bs1, _, k1⟩ := one_z ((ht.block w.heap.size (by omega) (by omega)).trans H2.out)
      have HBE : Hid (Below w.heap.size w wr) := Lib.hid (HBW.out.trans (ht.toBelow (by omega) (by omega)))
      rcases (by omega : m = 0 ∨ 0 < m) with hm0 | hm0
      · subst hm0
        obtain ⟨sv, hv, hsl, hsat⟩ := sl_ofN ho hl
        subst hv
        have HSat := Lib.hid hsat
        clear hm hr hs hl ho ht hsat
        go_wp2_with fail
        go_ret2
        have hk : k = sl.len := by omega
        refine .inr (.inr ⟨HAll.out, by rw [← hk]; exact HL.out, sv, rfl, by omega, by rw [← hk]; exact HSat.out, Cls.of HBE.out⟩)
      · have d1 : decide ((0 : Int) < (m : Nat)) = true := by simp; omega
        have hx : idx (goodF sl tb f') 0 sl.len = idx (good sl tb (ordL sl tb k)) 0 sl.len := idx_congr _ _ fun i _ hi => goodF_eq HAll.out HS.out (by omega)
        have C2 : Hid (∀ W, Below wr.heap.size wr W → Calls Tryd.prog 104 #[.int .i64 (sn : Nat), .map (some B)] W fun r w' => r = .returned (.tuple #[.int .i64 (at0 (idx (good sl tb (ordL sl tb k)) 0 sl.len)), .bool (decide (0 ≤ idx (good sl tb (ordL sl tb k)) 0 sl.len))]) ∧ Cls W w') := Lib.hid (fun W hW => by
          have := ready_calls sl tb s B c' m f' W (HM.out.later hW) (HR.out.later hW) HAll.out (by omega)
          rw [hx, hsn] at this
          rw [hsn]
          exact this)
        have hbd := idx_bd (good sl tb (ordL sl tb k)) sl.len 0
        have HGo : Hid (0 ≤ idx (good sl tb (ordL sl tb k)) 0 sl.len → ordL sl tb (k + 1) = ordL sl tb k ++ [(idx (good sl tb (ordL sl tb k)) 0 sl.len).toNat] ∧ good sl tb (ordL sl tb k) (idx (good sl tb (ordL sl tb k)) 0 sl.len).toNat = true) := Lib.hid fun h => ⟨ordL_go h, idx_good _ _ h⟩
        have HSt : Hid (idx (good sl tb (ordL sl tb k)) 0 sl.len < 0 → ordL sl tb sl.len = ordL sl tb k) := Lib.hid fun h => by
          have := ordL_stop h (sl.len - k)
          rwa [show k + (sl.len - k) = sl.len by omega] at this
        clear hm hr hs hl ho ht hx
        generalize idx (good sl tb (ordL sl tb k)) 0 sl.len = q at C2 hbd HGo HSt
        by_cases hq : q < 0
        · have e1 : at0 q = 0 := if_pos hq
          have e2 : decide (0 ≤ q) = false := by simp; omega
          rw [e1, e2] at C2
          clear e1 e2
          go_wp2_with (go_at_call 104; ((with_reducible refine (C2.out _ (Below.refl _ _)).mono ?_); rintro r _ ⟨rfl, y, rfl⟩))
          go_ret2
          refine .inr (.inl ⟨HAll.out, ?_, rfl, Cls.of (HBE.out.trans (y.below.mono HBE.out.size))⟩)
          rw [HSt.out hq, HL.out]
          omega
        · obtain ⟨i, rfl⟩ : ∃ i : Nat, q = (i : Nat) := ⟨q.toNat, by omega⟩
          have e1 : at0 (i : Nat) = ((i : Nat) : Int) := if_neg (by omega)
          have e2 : decide ((0 : Int) ≤ (i : Nat)) = true := by simp
          rw [e1, e2] at C2
          clear e1 e2
          have hin : i < sl.len := by omega
          obtain ⟨i0, hi, hz0, hz1, hz2⟩ := info_parts infoI_z
          go_wp2_with (first | (go_at_call 104; ((with_reducible refine (C2.out _ (Below.refl _ _)).mono ?_); rintro r _ ⟨rfl, y, rfl⟩; have ys := y.size)) | (at_delete; refine wpList_drop_z _ rfl _ _ rfl B c' m f' rfl (HM.out.later y.below) i (by omega) rfl ?_; intro w2 m' hm2 hmm hg2; have HM2 := Lib.hid hm2; have HMM := Lib.hid hmm; have HG2 := Lib.hid hg2; have w2s := hg2.size; have HO2 := Lib.hid (own_turn (own_later_z HO.out y.below) hg2 (own_not_map (own_later_z HO.out y.below) (HM.out.later y.below))); clear hm2 hmm hg2) | (at_builtin; refine wpList_append_own_at _ rfl _ _ 22 rfl W1.heap.size 3 i0 (.int .i64 0) 1 8 Tryd.underlying22 hi hz0 hz1 hz2 rfl (by decide) _ k (flatN (ordL sl tb k)) rfl (own_later_z HO2.out ((Below.refl _ _).alloc (Nat.le_refl _) _)) ⟨w2.heap.size, 0, none⟩ 1 1 [.int .i64 (i : Nat)] rfl rfl (cells_new_z _ _ _ (by simp)) (int_one_z _) (by unfold maxLen; omega) (by omega) (by simp; omega) ?_; intro v3 w3 hown3 hg3 _ hat3; have HO3 := Lib.hid hown3; have HG3 := Lib.hid hg3; clear hown3 hg3 hat3))
          have hg3 : (w2.alloc (.cells #[.int .i64 (i : Nat)] 3)).grownBy w3 u6.ownBlock := HG3.out
          obtain ⟨hgo, hgi⟩ := HGo.out (by omega)
          simp only [Int.toNat_natCast] at hgo hgi
          have hci : (ordL sl tb k).contains i = false := by
            unfold good at hgi
            simp only [Bool.and_eq_true, Bool.not_eq_true'] at hgi
            exact hgi.1
          have hfi : (f' i).isSome = true := by rw [HS.out i, hci]; simp [hin]
          have hmm := HMM.out hfi
          refine ⟨⟨k + 1, m', c', upd f' i none, by omega, (HM2.out.later ((Below.refl _ _).alloc (Nat.le_refl _) _)).grown hg3 (fun e => own_not_map HO2.out HM2.out _ e.symm rfl), fun j hj => ?_, fun j => ?_, by rw [hgo, List.length_append, HL.out]; rfl, by rw [hgo, flatN_go]; exact HO3.out, ((Tp.turn (HT.out.trans (Tp.ofBelow y.below)) HG2.out).alloc _).grown hg3 (fun q hq => (HO.out.lt q hq).1)⟩, ?_⟩
          · by_cases e : j = i
            · subst e
              exact .inr upd_at
            · rw [upd_ne e]
              exact HFF.out j hj
          · rw [hgo]
            by_cases e : j = i
            · subst e
              rw [upd_at]
              simp
            · rw [upd_ne e, HS.out j]
              simp [e]
          · rw [own_lenV HO3.out, own_lenV HO.out]
            omega
end Go.Proofs.YtpddkljedhghkaaDoor
