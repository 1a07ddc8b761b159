/-
  The program's Order.
-/
import Derived.Test.YtilnnpeknkjjmaaORefs
set_option linter.unusedVariables false
namespace Go.Proofs.Ytilnnpeknkjjmaa
open Go Go.RowKit Go.Deep
theorem good_all {l : List Nat} {g : Nat → Nat} : ∀ n, ((List.range n).map g).all (fun t => l.contains t) = true ↔ ∀ k, k < n → l.contains (g k) = true := by
  intro n
  rw [List.all_eq_true]
  constructor
  · intro h k hk
    exact h (g k) (List.mem_map.2 ⟨k, List.mem_range.2 hk, rfl⟩)
  · intro h t ht
    obtain ⟨k, hk, rfl⟩ := List.mem_map.1 ht
    exact h k (List.mem_range.1 hk)
theorem goodF_eq {sl : Sl} {tb : Nat → Tb} {f : Nat → Option Value} {l : List Nat} (hall : allT sl tb) (hs : ∀ i, (f i).isSome = (decide (i < sl.len) && !l.contains i)) {i : Nat} (hi : i < sl.len) : goodF sl tb f i = good sl tb l i := by
  have h1 : (f i).isSome = !l.contains i := by rw [hs i]; simp [hi]
  have h2 : (!decide (0 ≤ idx (fun k => (f (tgN sl tb i k)).isSome) 0 (tb i).fs.len)) = (tgL sl tb i (tb i).fs.len).all fun t => l.contains t := by
    have h3 := idx_none (p := fun k => (f (tgN sl tb i k)).isSome) (tb i).fs.len 0
    have h4 := good_all (l := l) (g := tgN sl tb i) (tb i).fs.len
    by_cases h5 : idx (fun k => (f (tgN sl tb i k)).isSome) 0 (tb i).fs.len < 0
    · have h6 := h3.1 h5
      have h7 := h4.2 fun k hk => by
        have := h6 k (Nat.zero_le _) (by omega)
        rw [hs] at this
        have hlt := tg_lt (hall i hi k hk)
        simpa [hlt] using this
      have h8 : decide (0 ≤ idx (fun k => (f (tgN sl tb i k)).isSome) 0 (tb i).fs.len) = false := by simp; omega
      rw [h8]
      exact h7.symm
    · have h8 : decide (0 ≤ idx (fun k => (f (tgN sl tb i k)).isSome) 0 (tb i).fs.len) = true := by simp; omega
      rw [h8]
      symm
      show ((List.range (tb i).fs.len).map (tgN sl tb i)).all (fun t => l.contains t) = false
      by_cases h9 : ((List.range (tb i).fs.len).map (tgN sl tb i)).all (fun t => l.contains t) = true
      · exfalso
        refine h5 (h3.2 fun k _ hk => ?_)
        have := h4.1 h9 k (by omega)
        rw [hs, this]
        simp
      · simpa using h9
  unfold goodF good
  rw [h1, h2]
def lenV : Value → Nat
  | .slice _ n _ => n
  | _ => 0
theorem own_lenV {w : World} {base size n : Nat} {e : TypeId} {v : Value} {xs : List Value} (h : w.ownsRow base e size v n xs) : lenV v = n := by
  rcases h.2 with ⟨rfl, h0⟩ | ⟨g, cap, cur, rfl, _⟩
  · exact h0.symm
  · rfl
/-- Ahead of a round of the loop. -/
def OrdA (sl : Sl) (tb : Nat → Tb) (f0 : Nat → Option Value) (B : Nat) (W1 : World) (u : Value) (wr : World) : Prop :=
  ∃ (k m c : Nat) (f : Nat → Option Value), k + m = sl.len ∧ MapIs wr B c m f ∧ (∀ j, j < sl.len → f j = f0 j ∨ f j = none) ∧ (∀ i, (f i).isSome = (decide (i < sl.len) && !(ordL sl tb k).contains i)) ∧ (ordL sl tb k).length = k ∧ wr.ownsRow W1.heap.size 3 1 u k (flatN (ordL sl tb k)) ∧ Tp B W1 wr
set_option maxHeartbeats 8000000 in
set_option maxRecDepth 20000 in
theorem Order_calls (sl : Sl) (tb : Nat → Tb) (w : World) (h : TabsAt w sl tb) (hn : sl.len ≤ 10) (hf : ∀ i, i < sl.len → (tb i).fs.len ≤ 8) :
    Calls Try.prog 5 #[.agg #[.slice sl.a sl.len sl.cap]] w (OrdIs sl tb w) := by
  have hb0 : Below w.heap.size w (w.alloc (.cells #[.slice sl.a sl.len sl.cap] 24)) := (Below.refl _ _).alloc (Nat.le_refl _) _
  have C1 := Lib.hid (refs_calls sl tb (w.alloc (.cells #[.slice sl.a sl.len sl.cap] 24)) (h.later hb0) hn hf)
  have H := Lib.hid h
  have H1 : Hid ((w.alloc (.cells #[.slice sl.a sl.len sl.cap] 24)).heap[w.heap.size]? = some (.cells #[.slice sl.a sl.len sl.cap] 24)) := Lib.hid (heap_alloc_new w _)
  clear h hb0 hf
  generalize hsn : sl.len = sn at hn C1 H1
  go_enter Try.func5, Try.ntmps5
  go_wp2_with (go_at_call 9; ((with_reducible refine C1.out.mono ?_); rintro r w1 hq; rcases hq with ⟨hno, rfl, x, rfl⟩ | ⟨hall, B, c, s, f, rfl, hB, hm, hr, hs, x, rfl⟩))
  · go_ret2
    refine .inl ⟨hno, rfl, Cls.of ?_⟩
    repeat first | with_reducible exact Below.refl _ _ | with_reducible refine Below.setCell ?_ (by first | omega | (simp; done) | (simp; omega)) _ | with_reducible refine Below.alloc ?_ (by first | omega | (simp; done) | (simp; omega)) _ | with_reducible refine Below.drew ?_ | with_reducible refine Ext.on _ ?_ (by first | omega | (simp; done) | (simp; omega))
  · have HBW : Hid (Below w.heap.size w x.val) := Lib.hid (by repeat first | with_reducible exact Below.refl _ _ | with_reducible refine Below.setCell ?_ (by first | omega | (simp; done) | (simp; omega)) _ | with_reducible refine Below.alloc ?_ (by first | omega | (simp; done) | (simp; omega)) _ | with_reducible refine Below.drew ?_ | with_reducible refine Ext.on _ ?_ (by first | omega | (simp; done) | (simp; omega)))
    have H2 : Hid (x.val.heap[w.heap.size]? = some (.cells #[.slice sl.a sn sl.cap] 24)) := Lib.hid ((x.below.block _ (by simp)).trans H1.out)
    have hB2 : w.heap.size + 1 ≤ B := by simpa using hB
    have hs0 : OrdA sl tb f B x.val nilV x.val := ⟨0, sl.len, c, f, by omega, hm, fun j _ => .inl rfl, fun i => by rw [hs i]; simp [ordL], rfl, World.ownsRow_nil _ _ _ 1, Tp.refl _ _⟩
    have HS0 := Lib.hid hs0
    have HAll := Lib.hid hall
    have HR0 := Lib.hid hr
    have HM0 := Lib.hid hm
    have hxs : w.heap.size + 1 ≤ x.val.heap.size := by have := x.size; simpa using this
    have hBl := hm.lt
    clear hs0 hall hm hr hs hB C1 H1
    generalize x.val = W1 at HBW H2 HS0 HR0 HM0 hxs hBl ⊢
    go_loopw [6] (fun u wr => OrdA sl tb f B W1 u wr) (fun u _ => sn - lenV u)
    case atStart => exact HS0.out
    case round =>
      obtain ⟨k, m, c', f', hkm, hm, hff, hs, hl, ho, ht⟩ := hrel
      have hr := HR0.out.turn HM0.out ht hff
      have HFF := Lib.hid hff
      clear hff
      have HM := Lib.hid hm
      have HR := Lib.hid hr
      have HS := Lib.hid hs
      have HL := Lib.hid hl
      have HO := Lib.hid ho
      have HT := Lib.hid ht
      have hsz := ht.size
      have hlm := hm.len 3
      obtain ⟨bs1, _, k1⟩ := one_z ((ht.block w.heap.size (by omega) (by omega)).trans H2.out)
      have HBE : Hid (Below w.heap.size w wr) := Lib.hid (HBW.out.trans (ht.toBelow (by omega) (by omega)))
      rcases (by omega : m = 0 ∨ 0 < m) with hm0 | hm0
      · subst hm0
        obtain ⟨sv, hv, hsl, hsat⟩ := sl_ofN ho hl
        subst hv
        have HSat := Lib.hid hsat
        clear hm hr hs hl ho ht hsat
        go_wp2_with fail
        go_ret2
        have hk : k = sl.len := by omega
        refine .inr (.inr ⟨HAll.out, by rw [← hk]; exact HL.out, sv, rfl, by omega, by rw [← hk]; exact HSat.out, Cls.of HBE.out⟩)
      · have d1 : decide ((0 : Int) < (m : Nat)) = true := by simp; omega
        have hx : idx (goodF sl tb f') 0 sl.len = idx (good sl tb (ordL sl tb k)) 0 sl.len := idx_congr _ _ fun i _ hi => goodF_eq HAll.out HS.out (by omega)
        have C2 : Hid (∀ W, Below wr.heap.size wr W → Calls Try.prog 10 #[.int .i64 (sn : Nat), .map (some B)] W fun r w' => r = .returned (.tuple #[.int .i64 (at0 (idx (good sl tb (ordL sl tb k)) 0 sl.len)), .bool (decide (0 ≤ idx (good sl tb (ordL sl tb k)) 0 sl.len))]) ∧ Cls W w') := Lib.hid (fun W hW => by
          have := ready_calls sl tb s B c' m f' W (HM.out.later hW) (HR.out.later hW) HAll.out (by omega)
          rw [hx, hsn] at this
          rw [hsn]
          exact this)
        have hbd := idx_bd (good sl tb (ordL sl tb k)) sl.len 0
        have HGo : Hid (0 ≤ idx (good sl tb (ordL sl tb k)) 0 sl.len → ordL sl tb (k + 1) = ordL sl tb k ++ [(idx (good sl tb (ordL sl tb k)) 0 sl.len).toNat] ∧ good sl tb (ordL sl tb k) (idx (good sl tb (ordL sl tb k)) 0 sl.len).toNat = true) := Lib.hid fun h => ⟨ordL_go h, idx_good _ _ h⟩
        have HSt : Hid (idx (good sl tb (ordL sl tb k)) 0 sl.len < 0 → ordL sl tb sl.len = ordL sl tb k) := Lib.hid fun h => by
          have := ordL_stop h (sl.len - k)
          rwa [show k + (sl.len - k) = sl.len by omega] at this
        clear hm hr hs hl ho ht hx
        generalize idx (good sl tb (ordL sl tb k)) 0 sl.len = q at C2 hbd HGo HSt
        by_cases hq : q < 0
        · have e1 : at0 q = 0 := if_pos hq
          have e2 : decide (0 ≤ q) = false := by simp; omega
          rw [e1, e2] at C2
          clear e1 e2
          go_wp2_with (go_at_call 10; ((with_reducible refine (C2.out _ (Below.refl _ _)).mono ?_); rintro r _ ⟨rfl, y, rfl⟩))
          go_ret2
          refine .inr (.inl ⟨HAll.out, ?_, rfl, Cls.of (HBE.out.trans (y.below.mono HBE.out.size))⟩)
          rw [HSt.out hq, HL.out]
          omega
        · obtain ⟨i, rfl⟩ : ∃ i : Nat, q = (i : Nat) := ⟨q.toNat, by omega⟩
          have e1 : at0 (i : Nat) = ((i : Nat) : Int) := if_neg (by omega)
          have e2 : decide ((0 : Int) ≤ (i : Nat)) = true := by simp
          rw [e1, e2] at C2
          clear e1 e2
          have hin : i < sl.len := by omega
          obtain ⟨i0, hi, hz0, hz1, hz2⟩ := info_parts infoI_z
          go_wp2_with (first | (go_at_call 10; ((with_reducible refine (C2.out _ (Below.refl _ _)).mono ?_); rintro r _ ⟨rfl, y, rfl⟩; have ys := y.size)) | (at_delete; refine wpList_drop_z _ rfl _ _ rfl B c' m f' rfl (HM.out.later y.below) i (by omega) rfl ?_; intro w2 m' hm2 hmm hg2; have HM2 := Lib.hid hm2; have HMM := Lib.hid hmm; have HG2 := Lib.hid hg2; have w2s := hg2.size; have HO2 := Lib.hid (own_turn (own_later_z HO.out y.below) hg2 (own_not_map (own_later_z HO.out y.below) (HM.out.later y.below))); clear hm2 hmm hg2) | (at_builtin; refine wpList_append_own_at _ rfl _ _ 26 rfl W1.heap.size 3 i0 (.int .i64 0) 1 8 Try.underlying26 hi hz0 hz1 hz2 rfl (by decide) _ k (flatN (ordL sl tb k)) rfl (own_later_z HO2.out ((Below.refl _ _).alloc (Nat.le_refl _) _)) ⟨w2.heap.size, 0, none⟩ 1 1 [.int .i64 (i : Nat)] rfl rfl (cells_new_z _ _ _ (by simp)) (int_one_z _) (by unfold maxLen; omega) (by omega) (by simp; omega) ?_; intro v3 w3 hown3 hg3 _ hat3; have HO3 := Lib.hid hown3; have HG3 := Lib.hid hg3; clear hown3 hg3 hat3))
          have hg3 : (w2.alloc (.cells #[.int .i64 (i : Nat)] 3)).grownBy w3 u6.ownBlock := HG3.out
          obtain ⟨hgo, hgi⟩ := HGo.out (by omega)
          simp only [Int.toNat_natCast] at hgo hgi
          have hci : (ordL sl tb k).contains i = false := by
            unfold good at hgi
            simp only [Bool.and_eq_true, Bool.not_eq_true'] at hgi
            exact hgi.1
          have hfi : (f' i).isSome = true := by rw [HS.out i, hci]; simp [hin]
          have hmm := HMM.out hfi
          refine ⟨⟨k + 1, m', c', upd f' i none, by omega, (HM2.out.later ((Below.refl _ _).alloc (Nat.le_refl _) _)).grown hg3 (fun e => own_not_map HO2.out HM2.out _ e.symm rfl), fun j hj => ?_, fun j => ?_, by rw [hgo, List.length_append, HL.out]; rfl, by rw [hgo, flatN_go]; exact HO3.out, ((Tp.turn (HT.out.trans (Tp.ofBelow y.below)) HG2.out).alloc _).grown hg3 (fun q hq => (HO.out.lt q hq).1)⟩, ?_⟩
          · by_cases e : j = i
            · subst e
              exact .inr upd_at
            · rw [upd_ne e]
              exact HFF.out j hj
          · rw [hgo]
            by_cases e : j = i
            · subst e
              rw [upd_at]
              simp
            · rw [upd_ne e, HS.out j]
              simp [e]
          · rw [own_lenV HO3.out, own_lenV HO.out]
            omega
end Go.Proofs.Ytilnnpeknkjjmaa
