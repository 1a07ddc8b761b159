/-
  The program's Order.
-/
import Derived.Test.YtdmhmlnfoocnjaaGreatDoorK24
import Derived.Test.YtdmhmlnfoocnjaaGreatDoorK22
set_option linter.unusedVariables false
namespace Go.Proofs.YtdmhmlnfoocnjaaGreatDoor
open Go Go.RowKit Go.Deep
theorem good_all {l : List Nat} {g : Nat → Nat} : ∀ n, ((List.range n).map g).all (fun t => l.contains t) = true ↔ ∀ k, k < n → l.contains (g k) = true := by
  intro n
  rw [List.all_eq_true]
  constructor
  · intro h k hk
    exact h (g k) (List.mem_map.2 ⟨k, List.mem_range.2 hk, rfl⟩)
  · intro h t ht
    obtain ⟨k, hk, rfl⟩ := List.mem_map.1 ht
    exact h k (List.mem_range.1 hk)
theorem goodF_eq {sl : Sl} {tb : Nat → Tb} {f : Nat → Option Value} {l : List Nat} (hall : allT sl tb) (hs : ∀ i, (f i).isSome = (decide (i < sl.len) && !l.contains i)) {i : Nat} (hi : i < sl.len) : goodF sl tb f i = good sl tb l i := by
  have h1 : (f i).isSome = !l.contains i := by rw [hs i]; simp [hi]
  have h2 : (!decide (0 ≤ idx (fun k => (f (tgN sl tb i k)).isSome) 0 (tb i).fs.len)) = (tgL sl tb i (tb i).fs.len).all fun t => l.contains t := by
    have h3 := idx_none (p := fun k => (f (tgN sl tb i k)).isSome) (tb i).fs.len 0
    have h4 := good_all (l := l) (g := tgN sl tb i) (tb i).fs.len
    by_cases h5 : idx (fun k => (f (tgN sl tb i k)).isSome) 0 (tb i).fs.len < 0
    · have h6 := h3.1 h5
      have h7 := h4.2 fun k hk => by
        have := h6 k (Nat.zero_le _) (by omega)
        rw [hs] at this
        have hlt := tg_lt (hall i hi k hk)
        simpa [hlt] using this
      have h8 : decide (0 ≤ idx (fun k => (f (tgN sl tb i k)).isSome) 0 (tb i).fs.len) = false := by simp; omega
      rw [h8]
      exact h7.symm
    · have h8 : decide (0 ≤ idx (fun k => (f (tgN sl tb i k)).isSome) 0 (tb i).fs.len) = true := by simp; omega
      rw [h8]
      symm
      show ((List.range (tb i).fs.len).map (tgN sl tb i)).all (fun t => l.contains t) = false
      by_cases h9 : ((List.range (tb i).fs.len).map (tgN sl tb i)).all (fun t => l.contains t) = true
      · exfalso
        refine h5 (h3.2 fun k _ hk => ?_)
        have := h4.1 h9 k (by omega)
        rw [hs, this]
        simp
      · simpa using h9
  unfold goodF good
  rw [h1, h2]
def lenV : Value → Nat
  | .slice _ n _ => n
  | _ => 0
theorem own_lenV {w : World} {base size n : Nat} {e : TypeId} {v : Value} {xs : List Value} (h : w.ownsRow base e size v n xs) : lenV v = n := by
  rcases h.2 with ⟨rfl, h0⟩ | ⟨g, cap, cur, rfl, _⟩
  · exact h0.symm
  · rfl
def OrdA (sl : Sl) (tb : Nat → Tb) (f0 : Nat → Option Value) (B : Nat) (W1 : World) (u : Value) (wr : World) : Prop :=
  ∃ (k m c : Nat) (f : Nat → Option Value), k + m = sl.len ∧ MapIs wr B c m f ∧ (∀ j, j < sl.len → f j = f0 j ∨ f j = none) ∧ (∀ i, (f i).isSome = (decide (i < sl.len) && !(ordL sl tb k).contains i)) ∧ (ordL sl tb k).length = k ∧ wr.ownsRow W1.heap.size 3 1 u k (flatN (ordL sl tb k)) ∧ Tp B W1 wr
set_option maxHeartbeats 8000000 in
set_option maxRecDepth 20000 in
theorem Order_calls (sl : Sl) (tb : Nat → Tb) (w : World) (h : TabsAt w sl tb) (hn : sl.len ≤ 10) (hf : ∀ i, i < sl.len → (tb i).fs.len ≤ 8) :
    Calls Tryz.prog 48 #[.agg #[.slice sl.a sl.len sl.cap]] w (OrdIs sl tb w) := by
  have hb0 : Below w.heap.size w (w.alloc (.cells #[.slice sl.a sl.len sl.cap] 28)) := (Below.refl _ _).alloc (Nat.le_refl _) _
  have C1 := Lib.hid (refs_calls sl tb (w.alloc (.cells #[.slice sl.a sl.len sl.cap] 28)) (h.later hb0) hn hf)
  have H := Lib.hid h
  have H1 : Hid ((w.alloc (.cells #[.slice sl.a sl.len sl.cap] 28)).heap[w.heap.size]? = some (.cells #[.slice sl.a sl.len sl.cap] 28)) := Lib.hid (heap_alloc_new w _)
  clear h hb0 hf
  generalize hsn : sl.len = sn at hn C1 H1
  go_enter Tryz.func48, Tryz.ntmps48
  go_wp2_with (go_at_call 79; ((with_reducible refine C1.out.mono ?_); rintro r w1 hq; rcases hq with ⟨hno, rfl, x, rfl⟩ | ⟨hall, B, c, s, f, rfl, hB, hm, hr, hs, x, rfl⟩))
  · go_ret2
    refine .inl ⟨hno, rfl, Cls.of ?_⟩
    repeat first|with_reducible exact Below.refl _ _|with_reducible refine Below.setCell ?_ (by first|omega|(simp;done)|(simp;omega)) _|with_reducible refine Below.alloc ?_ (by first|omega|(simp;done)|(simp;omega)) _|with_reducible refine Below.drew ?_|with_reducible refine Ext.on _ ?_ (by first|omega|(simp;done)|(simp;omega))
  · have HBW : Hid (Below w.heap.size w x.val) := Lib.hid (by repeat first|with_reducible exact Below.refl _ _|with_reducible refine Below.setCell ?_ (by first|omega|(simp;done)|(simp;omega)) _|with_reducible refine Below.alloc ?_ (by first|omega|(simp;done)|(simp;omega)) _|with_reducible refine Below.drew ?_|with_reducible refine Ext.on _ ?_ (by first|omega|(simp;done)|(simp;omega)))
    have H2 : Hid (x.val.heap[w.heap.size]? = some (.cells #[.slice sl.a sn sl.cap] 28)) := Lib.hid ((x.below.block _ (by simp)).trans H1.out)
    have hB2 : w.heap.size + 1 ≤ B := by simpa using hB
    have hs0 : OrdA sl tb f B x.val nilV x.val := ⟨0, sl.len, c, f, by omega, hm, fun j _ => .inl rfl, fun i => by rw [hs i]; simp [ordL], rfl, World.ownsRow_nil _ _ _ 1, Tp.refl _ _⟩
    have HS0 := Lib.hid hs0
    have HAll := Lib.hid hall
    have HR0 := Lib.hid hr
    have HM0 := Lib.hid hm
    have hxs : w.heap.size + 1 ≤ x.val.heap.size := by have := x.size; simpa using this
    have hBl := hm.lt
    clear hs0 hall hm hr hs hB C1 H1
    generalize x.val = W1 at HBW H2 HS0 HR0 HM0 hxs hBl ⊢
    go_loopw [6] (fun u wr => OrdA sl tb f B W1 u wr) (fun u _ => sn - lenV u)
    case atStart => exact HS0.out
    case round =>
      obtain ⟨k, m, c', f', hkm, hm, hff, hs, hl, ho, ht⟩ := hrel
      have hr := HR0.out.turn HM0.out ht hff
      have HFF := Lib.hid hff
      clear hff
      have HM := Lib.hid hm
      have HR := Lib.hid hr
      have HS := Lib.hid hs
      have HL := Lib.hid hl
      have HO := Lib.hid ho
      have HT := Lib.hid ht
      have hsz := ht.size
      have hlm := hm.len 3
      obtain ⟨bs1, _, k1⟩ := one_z ((ht.block w.heap.size (by omega) (by omega)).trans H2.out)
      have HBE : Hid (Below w.heap.size w wr) := Lib.hid (HBW.out.trans (ht.toBelow (by omega) (by omega)))
      rcases (by omega : m = 0 ∨ 0 < m) with hm0 | hm0
      · subst hm0
        obtain ⟨sv, hv, hsl, hsat⟩ := sl_ofN ho hl
        subst hv
        have HSat := Lib.hid hsat
        clear hm hr hs hl ho ht hsat
        go_wp2_with fail
        go_ret2
        have hk : k = sl.len := by omega
        refine .inr (.inr ⟨HAll.out, by rw [← hk]; exact HL.out, sv, rfl, by omega, by rw [← hk]; exact HSat.out, Cls.of HBE.out⟩)
      · have d1 : decide ((0 : Int) < (m : Nat)) = true := by simp; omega
        have hx : idx (goodF sl tb f') 0 sl.len = idx (good sl tb (ordL sl tb k)) 0 sl.len := idx_congr _ _ fun i _ hi => goodF_eq HAll.out HS.out (by omega)
        have C2 : Hid (∀ W, Below wr.heap.size wr W → Calls Tryz.prog 80 #[.int .i64 (sn : Nat), .map (some B)] W fun r w' => r = .returned (.tuple #[.int .i64 (at0 (idx (good sl tb (ordL sl tb k)) 0 sl.len)), .bool (decide (0 ≤ idx (good sl tb (ordL sl tb k)) 0 sl.len))]) ∧ Cls W w') := Lib.hid (fun W hW => by
          have := ready_calls sl tb s B c' m f' W (HM.out.later hW) (HR.out.later hW) HAll.out (by omega)
          rw [hx, hsn] at this
          rw [hsn]
          exact this)
        have hbd := idx_bd (good sl tb (ordL sl tb k)) sl.len 0
        have HGo : Hid (0 ≤ idx (good sl tb (ordL sl tb k)) 0 sl.len → ordL sl tb (k + 1) = ordL sl tb k ++ [(idx (good sl tb (ordL sl tb k)) 0 sl.len).toNat] ∧ good sl tb (ordL sl tb k) (idx (good sl tb (ordL sl tb k)) 0 sl.len).toNat = true) := Lib.hid fun h => ⟨ordL_go h, idx_good _ _ h⟩
        have HSt : Hid (idx (good sl tb (ordL sl tb k)) 0 sl.len < 0 → ordL sl tb sl.len = ordL sl tb k) := Lib.hid fun h => by
          have := ordL_stop h (sl.len - k)
          rwa [show k + (sl.len - k) = sl.len by omega] at this
        clear hm hr hs hl ho ht hx
        generalize idx (good sl tb (ordL sl tb k)) 0 sl.len = q at C2 hbd HGo HSt
        by_cases hq : q < 0
        · have e1 : at0 q = 0 := if_pos hq
          have e2 : decide (0 ≤ q) = false := by simp; omega
          rw [e1, e2] at C2
          clear e1 e2
          go_wp2_with (go_at_call 80; ((with_reducible refine (C2.out _ (Below.refl _ _)).mono ?_); rintro r _ ⟨rfl, y, rfl⟩))
          go_ret2
          refine .inr (.inl ⟨HAll.out, ?_, rfl, Cls.of (HBE.out.trans (y.below.mono HBE.out.size))⟩)
          rw [HSt.out hq, HL.out]
          omega
        · obtain ⟨i, rfl⟩ : ∃ i : Nat, q = (i : Nat) := ⟨q.toNat, by omega⟩
          have e1 : at0 (i : Nat) = ((i : Nat) : Int) := if_neg (by omega)
          have e2 : decide ((0 : Int) ≤ (i : Nat)) = true := by simp
          rw [e1, e2] at C2
          clear e1 e2
          have hin : i < sl.len := by omega
          obtain ⟨i0, hi, hz0, hz1, hz2⟩ := info_parts infoI_z
          go_wp2_with (first | (go_at_call 80; ((with_reducible refine (C2.out _ (Below.refl _ _)).mono ?_); rintro r _ ⟨rfl, y, rfl⟩; have ys := y.size)) | (at_delete; refine wpList_drop_z _ rfl _ _ rfl B c' m f' rfl (HM.out.later y.below) i (by omega) rfl ?_; intro w2 m' hm2 hmm hg2; have HM2 := Lib.hid hm2; have HMM := Lib.hid hmm; have HG2 := Lib.hid hg2; have w2s := hg2.size; have HO2 := Lib.hid (own_turn (own_later_z HO.out y.below) hg2 (own_not_map (own_later_z HO.out y.below) (HM.out.later y.below))); clear hm2 hmm hg2) | (at_builtin; refine wpList_append_own_at _ rfl _ _ 22 rfl W1.heap.size 3 i0 (.int .i64 0) 1 8 Tryz.underlying22 hi hz0 hz1 hz2 rfl (by decide) _ k (flatN (ordL sl tb k)) rfl (own_later_z HO2.out ((Below.refl _ _).alloc (Nat.le_refl _) _)) ⟨w2.heap.size, 0, none⟩ 1 1 [.int .i64 (i : Nat)] rfl rfl (cells_new_z _ _ _ (by simp)) (int_one_z _) (by unfold maxLen; omega) (by omega) (by simp; omega) ?_; intro v3 w3 hown3 hg3 _ hat3; have HO3 := Lib.hid hown3; have HG3 := Lib.hid hg3; clear hown3 hg3 hat3))
          have hg3 : (w2.alloc (.cells #[.int .i64 (i : Nat)] 3)).grownBy w3 u6.ownBlock := HG3.out
          obtain ⟨hgo, hgi⟩ := HGo.out (by omega)
          simp only [Int.toNat_natCast] at hgo hgi
          have hci : (ordL sl tb k).contains i = false := by
            unfold good at hgi
            simp only [Bool.and_eq_true, Bool.not_eq_true'] at hgi
            exact hgi.1
          have hfi : (f' i).isSome = true := by rw [HS.out i, hci]; simp [hin]
          have hmm := HMM.out hfi
          refine ⟨⟨k + 1, m', c', upd f' i none, by omega, (HM2.out.later ((Below.refl _ _).alloc (Nat.le_refl _) _)).grown hg3 (fun e => own_not_map HO2.out HM2.out _ e.symm rfl), fun j hj => ?_, fun j => ?_, by rw [hgo, List.length_append, HL.out]; rfl, by rw [hgo, flatN_go]; exact HO3.out, ((Tp.turn (HT.out.trans (Tp.ofBelow y.below)) HG2.out).alloc _).grown hg3 (fun q hq => (HO.out.lt q hq).1)⟩, ?_⟩
          · by_cases e : j = i
            · subst e
              exact .inr upd_at
            · rw [upd_ne e]
              exact HFF.out j hj
          · rw [hgo]
            by_cases e : j = i
            · subst e
              rw [upd_at]
              simp
            · rw [upd_ne e, HS.out j]
              simp [e]
          · rw [own_lenV HO3.out, own_lenV HO.out]
            omega
end Go.Proofs.YtdmhmlnfoocnjaaGreatDoor
set_option linter.unusedVariables false
namespace Go.Proofs.YtdmhmlnfoocnjaaGreatDoor
open Go Go.RowKit Go.Deep
theorem ChkT.later {w w' : World} {t : Tb} {g : Nat → Int × Int} (h : ChkT w t g) (hb : Below w.heap.size w w') : ChkT w' t g := fun i hi W s a len cap hW h1 h2 h3 => h i hi W s a len cap (hb.trans (hW.mono hb.size)) h1 h2 h3
def tableE (t : Tb) (g : Nat → Int × Int) : Int :=
  if 8 < t.cs.len ∨ 3 < t.us.len ∨ 3 < t.fs.len ∨ 4 < t.ks.len then 8 else if t.cs.len = 0 then 9 else if colE t = 0 then (if keyE t = 0 then chkE g t.ks.len else keyE t) else colE t
theorem tableE_is (t : Tb) (g : Nat → Int × Int) : ((8 < t.cs.len ∨ 3 < t.us.len ∨ 3 < t.fs.len ∨ 4 < t.ks.len) → tableE t g = 8) ∧ (¬ (8 < t.cs.len ∨ 3 < t.us.len ∨ 3 < t.fs.len ∨ 4 < t.ks.len) → (t.cs.len = 0 → tableE t g = 9) ∧ (t.cs.len ≠ 0 → (colE t ≠ 0 → tableE t g = colE t) ∧ (colE t = 0 → (keyE t ≠ 0 → tableE t g = keyE t) ∧ (keyE t = 0 → tableE t g = chkE g t.ks.len)))) := by
  unfold tableE
  refine ⟨fun h => if_pos h, fun h => ?_⟩
  rw [if_neg h]
  refine ⟨fun h => if_pos h, fun h => ?_⟩
  rw [if_neg h]
  refine ⟨fun h => if_neg h, fun h => ?_⟩
  rw [if_pos h]
  exact ⟨fun h => if_neg h, fun h => if_pos h⟩
set_option maxHeartbeats 8000000 in
set_option maxRecDepth 20000 in
theorem tableError_calls (t : Tb) (g : Nat → Int × Int) (w : World) (h : TbAt w t) (hg : ChkT w t g) :
    Calls Tryz.prog 46 #[.agg #[.string t.name, .slice t.cs.a t.cs.len t.cs.cap, .slice t.ps.a t.ps.len t.ps.cap, .slice t.us.a t.us.len t.us.cap, .slice t.fs.a t.fs.len t.fs.cap, .slice t.ks.a t.ks.len t.ks.cap]] w fun r w' => r = .returned (.int .i64 (tableE t g)) ∧ Cls w w' := by
  have C1 : Hid (∀ W, Below w.heap.size w W → Calls Tryz.prog 74 #[.agg #[.string t.name, .slice t.cs.a t.cs.len t.cs.cap, .slice t.ps.a t.ps.len t.ps.cap, .slice t.us.a t.us.len t.us.cap, .slice t.fs.a t.fs.len t.fs.cap, .slice t.ks.a t.ks.len t.ks.cap]] W fun r w' => r = .returned (.int .i64 (colE t)) ∧ Cls W w') := Lib.hid fun W hW => columnError_calls t W (h.later hW)
  have C2 : Hid (∀ W, Below w.heap.size w W → Calls Tryz.prog 75 #[.agg #[.string t.name, .slice t.cs.a t.cs.len t.cs.cap, .slice t.ps.a t.ps.len t.ps.cap, .slice t.us.a t.us.len t.us.cap, .slice t.fs.a t.fs.len t.fs.cap, .slice t.ks.a t.ks.len t.ks.cap]] W fun r w' => r = .returned (.int .i64 (keyE t)) ∧ Cls W w') := Lib.hid fun W hW => keyError_calls t W (h.later hW)
  have C3 : Hid (t.cs.len ≤ 8 → ∀ W, Below w.heap.size w W → Calls Tryz.prog 76 #[.agg #[.string t.name, .slice t.cs.a t.cs.len t.cs.cap, .slice t.ps.a t.ps.len t.ps.cap, .slice t.us.a t.us.len t.us.cap, .slice t.fs.a t.fs.len t.fs.cap, .slice t.ks.a t.ks.len t.ks.cap]] W fun r w' => r = .returned (.int .i64 (chkE g t.ks.len)) ∧ Cls W w') := Lib.hid fun hc W hW => checkError_calls t g W (h.later hW) (hg.later hW) (by omega)
  have HI := Lib.hid (tableE_is t g)
  clear h hg
  generalize tableE t g = te at HI ⊢
  generalize chkE g t.ks.len = he at HI C3
  generalize colE t = ce at HI C1
  generalize keyE t = ke at HI C2
  obtain ⟨tn, ⟨ca, cn, cc⟩, tf, tps, tprim, ⟨ua, un, uc⟩, tuq, tuqn, ⟨fa, fn, fc⟩, tfk, tfkn, tfkt, ⟨ka, kn, kc⟩, tch⟩ := t
  simp only at C1 C2 C3 HI ⊢
  go_enter Tryz.func46, Tryz.ntmps46
  by_cases h1 : 8 < cn
  · have d1 : decide ((8 : Int) < (cn : Nat)) = true := by simp; omega
    have HT := Lib.hid (HI.out.1 (.inl h1))
    clear HI
    go_wp2_with fail
    go_ret
    refine ⟨ret_int (by rw [HT.out]), Cls.of ?_⟩
    repeat first|with_reducible exact Below.refl _ _|with_reducible refine Below.setCell ?_ (by first|omega|(simp;done)|(simp;omega)) _|with_reducible refine Below.alloc ?_ (by first|omega|(simp;done)|(simp;omega)) _|with_reducible refine Below.drew ?_|with_reducible refine Ext.on _ ?_ (by first|omega|(simp;done)|(simp;omega))
  have d1 : decide ((8 : Int) < (cn : Nat)) = false := by simp; omega
  by_cases h2 : 3 < un
  · have d2 : decide ((3 : Int) < (un : Nat)) = true := by simp; omega
    have HT := Lib.hid (HI.out.1 (.inr (.inl h2)))
    clear HI
    go_wp2_with fail
    go_ret
    refine ⟨ret_int (by rw [HT.out]), Cls.of ?_⟩
    repeat first|with_reducible exact Below.refl _ _|with_reducible refine Below.setCell ?_ (by first|omega|(simp;done)|(simp;omega)) _|with_reducible refine Below.alloc ?_ (by first|omega|(simp;done)|(simp;omega)) _|with_reducible refine Below.drew ?_|with_reducible refine Ext.on _ ?_ (by first|omega|(simp;done)|(simp;omega))
  have d2 : decide ((3 : Int) < (un : Nat)) = false := by simp; omega
  by_cases h3 : 3 < fn
  · have d3 : decide ((3 : Int) < (fn : Nat)) = true := by simp; omega
    have HT := Lib.hid (HI.out.1 (.inr (.inr (.inl h3))))
    clear HI
    go_wp2_with fail
    go_ret
    refine ⟨ret_int (by rw [HT.out]), Cls.of ?_⟩
    repeat first|with_reducible exact Below.refl _ _|with_reducible refine Below.setCell ?_ (by first|omega|(simp;done)|(simp;omega)) _|with_reducible refine Below.alloc ?_ (by first|omega|(simp;done)|(simp;omega)) _|with_reducible refine Below.drew ?_|with_reducible refine Ext.on _ ?_ (by first|omega|(simp;done)|(simp;omega))
  have d3 : decide ((3 : Int) < (fn : Nat)) = false := by simp; omega
  by_cases h4 : 4 < kn
  · have d4 : decide ((4 : Int) < (kn : Nat)) = true := by simp; omega
    have HT := Lib.hid (HI.out.1 (.inr (.inr (.inr h4))))
    clear HI
    go_wp2_with fail
    go_ret
    refine ⟨ret_int (by rw [HT.out]), Cls.of ?_⟩
    repeat first|with_reducible exact Below.refl _ _|with_reducible refine Below.setCell ?_ (by first|omega|(simp;done)|(simp;omega)) _|with_reducible refine Below.alloc ?_ (by first|omega|(simp;done)|(simp;omega)) _|with_reducible refine Below.drew ?_|with_reducible refine Ext.on _ ?_ (by first|omega|(simp;done)|(simp;omega))
  have d4 : decide ((4 : Int) < (kn : Nat)) = false := by simp; omega
  have HJ := Lib.hid (HI.out.2 (by omega))
  have CH := Lib.hid (C3.out (by omega))
  clear HI C3
  by_cases h5 : cn = 0
  · have d5 : ((cn : Int) == 0) = true := by simp; omega
    have HT := Lib.hid (HJ.out.1 h5)
    clear HJ h5
    go_wp2_with fail
    go_ret
    refine ⟨ret_int (by rw [HT.out]), Cls.of ?_⟩
    repeat first|with_reducible exact Below.refl _ _|with_reducible refine Below.setCell ?_ (by first|omega|(simp;done)|(simp;omega)) _|with_reducible refine Below.alloc ?_ (by first|omega|(simp;done)|(simp;omega)) _|with_reducible refine Below.drew ?_|with_reducible refine Ext.on _ ?_ (by first|omega|(simp;done)|(simp;omega))
  have d5 : ((cn : Int) == 0) = false := by simp; omega
  have HK := Lib.hid (HJ.out.2 h5)
  clear HJ
  by_cases h6 : ce = 0
  · have HL := Lib.hid (HK.out.2 h6)
    clear HK
    subst h6
    by_cases h7 : ke = 0
    · have HT := Lib.hid (HL.out.2 h7)
      clear HL
      subst h7
      go_wp2_with (first | (go_at_call 74; ((with_reducible refine (C1.out _ (by repeat first|with_reducible exact Below.refl _ _|with_reducible refine Below.setCell ?_ (by first|omega|(simp;done)|(simp;omega)) _|with_reducible refine Below.alloc ?_ (by first|omega|(simp;done)|(simp;omega)) _|with_reducible refine Below.drew ?_|with_reducible refine Ext.on _ ?_ (by first|omega|(simp;done)|(simp;omega)))).mono ?_); rintro r _ ⟨rfl, y, rfl⟩; obtain ⟨l1, l2, l3, l4, l5⟩ := y.lts (b := w.heap.size) (by simp))) | (go_at_call 75; ((with_reducible refine (C2.out _ (by repeat first|with_reducible exact Below.refl _ _|with_reducible refine Below.setCell ?_ (by first|omega|(simp;done)|(simp;omega)) _|with_reducible refine Below.alloc ?_ (by first|omega|(simp;done)|(simp;omega)) _|with_reducible refine Below.drew ?_|with_reducible refine Ext.on _ ?_ (by first|omega|(simp;done)|(simp;omega)))).mono ?_); rintro r _ ⟨rfl, z, rfl⟩; obtain ⟨l6, l7, l8, l9, l10⟩ := z.lts (b := w.heap.size) (by omega))) | (go_at_call 76; ((with_reducible refine (CH.out _ (by repeat first|with_reducible exact Below.refl _ _|with_reducible refine Below.setCell ?_ (by first|omega|(simp;done)|(simp;omega)) _|with_reducible refine Below.alloc ?_ (by first|omega|(simp;done)|(simp;omega)) _|with_reducible refine Below.drew ?_|with_reducible refine Ext.on _ ?_ (by first|omega|(simp;done)|(simp;omega)))).mono ?_); rintro r _ ⟨rfl, v, rfl⟩)))
      go_ret
      refine ⟨ret_int (by rw [HT.out]), Cls.of ?_⟩
      repeat first|with_reducible exact Below.refl _ _|with_reducible refine Below.setCell ?_ (by first|omega|(simp;done)|(simp;omega)) _|with_reducible refine Below.alloc ?_ (by first|omega|(simp;done)|(simp;omega)) _|with_reducible refine Below.drew ?_|with_reducible refine Ext.on _ ?_ (by first|omega|(simp;done)|(simp;omega))
    · have HT := Lib.hid (HL.out.1 h7)
      have d7 : (ke == 0) = false := by simp [h7]
      have d7' : (ke != 0) = true := by simp [h7]
      clear HL h7
      go_wp2_with (first | (go_at_call 74; ((with_reducible refine (C1.out _ (by repeat first|with_reducible exact Below.refl _ _|with_reducible refine Below.setCell ?_ (by first|omega|(simp;done)|(simp;omega)) _|with_reducible refine Below.alloc ?_ (by first|omega|(simp;done)|(simp;omega)) _|with_reducible refine Below.drew ?_|with_reducible refine Ext.on _ ?_ (by first|omega|(simp;done)|(simp;omega)))).mono ?_); rintro r _ ⟨rfl, y, rfl⟩; obtain ⟨l1, l2, l3, l4, l5⟩ := y.lts (b := w.heap.size) (by simp))) | (go_at_call 75; ((with_reducible refine (C2.out _ (by repeat first|with_reducible exact Below.refl _ _|with_reducible refine Below.setCell ?_ (by first|omega|(simp;done)|(simp;omega)) _|with_reducible refine Below.alloc ?_ (by first|omega|(simp;done)|(simp;omega)) _|with_reducible refine Below.drew ?_|with_reducible refine Ext.on _ ?_ (by first|omega|(simp;done)|(simp;omega)))).mono ?_); rintro r _ ⟨rfl, z, rfl⟩)))
      go_ret
      refine ⟨ret_int (by rw [HT.out]), Cls.of ?_⟩
      repeat first|with_reducible exact Below.refl _ _|with_reducible refine Below.setCell ?_ (by first|omega|(simp;done)|(simp;omega)) _|with_reducible refine Below.alloc ?_ (by first|omega|(simp;done)|(simp;omega)) _|with_reducible refine Below.drew ?_|with_reducible refine Ext.on _ ?_ (by first|omega|(simp;done)|(simp;omega))
  · have HT := Lib.hid (HK.out.1 h6)
    have d6 : (ce == 0) = false := by simp [h6]
    have d6' : (ce != 0) = true := by simp [h6]
    clear HK h6
    go_wp2_with (go_at_call 74; ((with_reducible refine (C1.out _ (by repeat first|with_reducible exact Below.refl _ _|with_reducible refine Below.setCell ?_ (by first|omega|(simp;done)|(simp;omega)) _|with_reducible refine Below.alloc ?_ (by first|omega|(simp;done)|(simp;omega)) _|with_reducible refine Below.drew ?_|with_reducible refine Ext.on _ ?_ (by first|omega|(simp;done)|(simp;omega)))).mono ?_); rintro r _ ⟨rfl, y, rfl⟩))
    go_ret
    refine ⟨ret_int (by rw [HT.out]), Cls.of ?_⟩
    repeat first|with_reducible exact Below.refl _ _|with_reducible refine Below.setCell ?_ (by first|omega|(simp;done)|(simp;omega)) _|with_reducible refine Below.alloc ?_ (by first|omega|(simp;done)|(simp;omega)) _|with_reducible refine Below.drew ?_|with_reducible refine Ext.on _ ?_ (by first|omega|(simp;done)|(simp;omega))
def vtE (sl : Sl) (tb : Nat → Tb) (g : Nat → Nat → Int × Int) (i : Nat) : Int :=
  if nameE (tb i).name (decide (at0 (idx (nameP tb (tb i).name) 0 sl.len) < i)) = 0 then tableE (tb i) (g i) else nameE (tb i).name (decide (at0 (idx (nameP tb (tb i).name) 0 sl.len) < i))
theorem vtE_is (sl : Sl) (tb : Nat → Tb) (g : Nat → Nat → Int × Int) (i : Nat) : (nameE (tb i).name (decide (at0 (idx (nameP tb (tb i).name) 0 sl.len) < i)) = 0 → vtE sl tb g i = tableE (tb i) (g i)) ∧ (nameE (tb i).name (decide (at0 (idx (nameP tb (tb i).name) 0 sl.len) < i)) ≠ 0 → vtE sl tb g i = nameE (tb i).name (decide (at0 (idx (nameP tb (tb i).name) 0 sl.len) < i))) := by
  unfold vtE
  exact ⟨fun h => if_pos h, fun h => if_neg h⟩
def validE (sl : Sl) (tb : Nat → Tb) (g : Nat → Nat → Int × Int) : Int :=
  if 6 < sl.len then 8 else if fstE (vtE sl tb g) 0 sl.len = 0 then (if tgtE sl tb = 0 then (if (ordL sl tb sl.len).length < sl.len then 7 else 0) else tgtE sl tb) else fstE (vtE sl tb g) 0 sl.len
theorem validE_is (sl : Sl) (tb : Nat → Tb) (g : Nat → Nat → Int × Int) : (6 < sl.len → validE sl tb g = 8) ∧ (¬ 6 < sl.len → (fstE (vtE sl tb g) 0 sl.len ≠ 0 → validE sl tb g = fstE (vtE sl tb g) 0 sl.len) ∧ (fstE (vtE sl tb g) 0 sl.len = 0 → (tgtE sl tb ≠ 0 → validE sl tb g = tgtE sl tb) ∧ (tgtE sl tb = 0 → ((ordL sl tb sl.len).length < sl.len → validE sl tb g = 7) ∧ ((ordL sl tb sl.len).length = sl.len → validE sl tb g = 0)))) := by
  unfold validE
  refine ⟨fun h => if_pos h, fun h => ?_⟩
  rw [if_neg h]
  refine ⟨fun h => if_neg h, fun h => ?_⟩
  rw [if_pos h]
  refine ⟨fun h => if_neg h, fun h => ?_⟩
  rw [if_pos h]
  exact ⟨fun h => if_pos h, fun h => if_neg (by omega)⟩
theorem vtE_key {sl : Sl} {tb : Nat → Tb} {g : Nat → Nat → Int × Int} (h : fstE (vtE sl tb g) 0 sl.len = 0) {i : Nat} (hi : i < sl.len) : keyE (tb i) = 0 ∧ (tb i).fs.len ≤ 3 := by
  have h1 := fstE_of _ _ h i (Nat.zero_le _) (by omega)
  have h2 := vtE_is sl tb g i
  by_cases hn : nameE (tb i).name (decide (at0 (idx (nameP tb (tb i).name) 0 sl.len) < i)) = 0
  · rw [h2.1 hn] at h1
    have h3 := tableE_is (tb i) (g i)
    by_cases h4 : 8 < (tb i).cs.len ∨ 3 < (tb i).us.len ∨ 3 < (tb i).fs.len ∨ 4 < (tb i).ks.len
    · rw [h3.1 h4] at h1
      cases h1
    · obtain ⟨h5, h6⟩ := h3.2 h4
      by_cases h7 : (tb i).cs.len = 0
      · rw [h5 h7] at h1
        cases h1
      · obtain ⟨h8, h9⟩ := h6 h7
        by_cases h10 : colE (tb i) = 0
        · obtain ⟨h11, h12⟩ := h9 h10
          by_cases h13 : keyE (tb i) = 0
          · exact ⟨h13, by omega⟩
          · rw [h11 h13] at h1
            exact absurd h1 h13
        · rw [h8 h10] at h1
          exact absurd h1 h10
  · rw [h2.2 hn] at h1
    exact absurd h1 hn
end Go.Proofs.YtdmhmlnfoocnjaaGreatDoor
