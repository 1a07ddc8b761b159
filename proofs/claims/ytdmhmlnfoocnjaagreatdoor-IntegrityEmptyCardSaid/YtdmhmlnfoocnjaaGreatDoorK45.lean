/-
  The reference's Order.
-/
import Derived.Test.YtdmhmlnfoocnjaaGreatDoorK25
import Derived.Deep.OwnRows
set_option linter.unusedVariables false
namespace Go.Proofs.YtdmhmlnfoocnjaaGreatDoor
open Go Go.RowKit Go.Deep
def DoneAt (w : World) (db n : Nat) (l : List Nat) : Prop := ∃ C : Array Value, w.heap[db]? = some (.cells C 4) ∧ C.size = n ∧ ∀ i, i < n → C[i]? = some (.bool (l.contains i))
theorem DoneAt.same {w w' : World} {db n : Nat} {l : List Nat} (h : DoneAt w db n l) (hb : w'.heap[db]? = w.heap[db]?) : DoneAt w' db n l := by
  obtain ⟨C, h1, h2⟩ := h
  exact ⟨C, hb.trans h1, h2⟩
theorem DoneAt.lt {w : World} {db n : Nat} {l : List Nat} (h : DoneAt w db n l) : db < w.heap.size := by
  obtain ⟨C, h1, _⟩ := h
  exact (Array.getElem?_eq_some_iff.1 h1).1
theorem DoneAt.later {w w' : World} {db n : Nat} {l : List Nat} (h : DoneAt w db n l) (hb : Below w.heap.size w w') : DoneAt w' db n l := h.same (hb.block db h.lt)
theorem DoneAt.cell {w : World} {db n : Nat} {l : List Nat} (h : DoneAt w db n l) {i : Nat} (hi : i < n) : w.cell? ⟨db, 0 + i, none⟩ = some (.bool (l.contains i)) := by
  obtain ⟨C, h1, _, h3⟩ := h
  rw [Nat.zero_add, cell_of_row _ _ _ _ _ (0, 0) h1]
  exact h3 i hi
theorem DoneAt.free {w : World} {db n : Nat} {l : List Nat} (h : DoneAt w db n l) (i : Nat) : w.frozen? ⟨db, i, none⟩ = false := by
  obtain ⟨C, h1, _⟩ := h
  exact free_z h1 i
theorem DoneAt.set {w : World} {db n i : Nat} {l : List Nat} (h : DoneAt w db n l) (hi : i < n) : DoneAt (w.setCell ⟨db, 0 + i, none⟩ (.bool true)) db n (l ++ [i]) := by
  obtain ⟨C, h1, h2, h3⟩ := h
  refine ⟨C.setIfInBounds i (.bool true), ?_, by simpa using h2, fun j hj => ?_⟩
  · simp only [World.setCell, Array.getElem?_modify, h1]
    simp
  · by_cases e : i = j
    · subst e
      rw [Array.getElem?_setIfInBounds_self_of_lt (by omega)]
      simp
    · rw [Array.getElem?_setIfInBounds_ne e, h3 j hj]
      have e2 : j ≠ i := fun h => e h.symm
      simp [e2]
theorem DoneAt.made (w : World) (n : Nat) : DoneAt (w.alloc (.cells (madeCells #[.bool false] n) 4)) w.heap.size n [] :=
  ⟨_, heap_alloc_new w _, by rw [size_madeCells], fun i hi => by
    have h := toList_madeCells_one (.bool false) n
    have h2 : (madeCells #[.bool false] n)[i]? = (madeCells #[Value.bool false] n).toList[i]? := by simp
    rw [h2, h]
    simp [hi]⟩
theorem infoB : (Tryz.prog.info? 4).map (fun i => (i.zero, i.size, i.bytes)) = some (some (.bool false), 1, 1) := by kernel_rfl
theorem all_go {sl : Sl} {tb : Nat → Tb} {j k : Nat} {cj : Bool} {p : Nat → Bool} : (!cj && (tgL sl tb j (k + 1)).all p) = ((!cj && (tgL sl tb j k).all p) && p (tgN sl tb j k)) := by
  rw [tgL_go, List.all_append]
  simp [Bool.and_assoc]
def AtIs (sl : Sl) (tb : Nat → Tb) (l : List Nat) (sn j : Nat) (a : Value) : Prop :=
  (a = .int .i64 (-1) ∧ idx (good sl tb l) 0 sn = idx (good sl tb l) j (sn - j)) ∨ ∃ q : Nat, a = .int .i64 (q : Nat) ∧ idx (good sl tb l) 0 sn = (q : Nat) ∧ q < sn
set_option maxHeartbeats 8000000 in
set_option maxRecDepth 20000 in
theorem rOrder_calls (sl : Sl) (tb : Nat → Tb) (w : World) (h : TabsAt w sl tb) (hn : sl.len ≤ 10) (hf : ∀ i, i < sl.len → (tb i).fs.len ≤ 8) :
    Calls Tryz.prog 38 #[.agg #[.slice sl.a sl.len sl.cap]] w (OrdIs sl tb w) := by
  have hle := h.1.1
  have hmax := h.1.2.1
  unfold maxLen at hmax
  have H := Lib.hid h
  have HF := Lib.hid hf
  have H1 : Hid ((w.alloc (.cells #[.slice sl.a sl.len sl.cap] 28)).heap[w.heap.size]? = some (.cells #[.slice sl.a sl.len sl.cap] 28)) := Lib.hid (heap_alloc_new w _)
  have HB0 : Hid (Below w.heap.size w (w.alloc (.cells #[.slice sl.a sl.len sl.cap] 28))) := Lib.hid ((Below.refl _ _).alloc (Nat.le_refl _) _)
  have hmk := fun W => run_make_row' (P := Tryz.prog) 75 4 (.bool false) 1 Tryz.underlying75 infoB rfl .i64 .i64 sl.len (by omega) (by omega) W
  clear h hf
  generalize hsn : sl.len = sn at hle hmax hn H1 HB0 hmk
  generalize hsa0 : sl.a = sa at H1 HB0
  have HSA := Lib.hid hsa0
  clear hsa0
  go_enter Tryz.func38, Tryz.ntmps38
  go_wp2_with fail
  have hs0 : w.heap.size + 1 ≤ (w.alloc (.cells #[.slice sa sn sl.cap] 28)).heap.size := by simp
  generalize (w.alloc (.cells #[.slice sa sn sl.cap] 28)) = W0 at H1 HB0 hs0 ⊢
  go_loopw [4] (fun i wr => ∃ j : Nat, j ≤ sn ∧ i = .int .i64 (j : Nat) ∧ (∀ i, i < j → ∀ k, k < (tb i).fs.len → tgtB sl tb (i : Nat) (k : Nat) = true) ∧ Cls W0 wr) (fun i _ => sn - (intOf i).toNat)
  case atStart => exact ⟨0, Nat.zero_le _, rfl, fun i hi => absurd hi (Nat.not_lt_zero _), Cls.of (Below.refl _ _)⟩
  case round =>
    obtain ⟨j, hj, rfl, hok, x, rfl⟩ := hrel
    have HOK := Lib.hid hok
    clear hok
    have xs := x.size
    have HBE : Hid (Below w.heap.size w x.val) := Lib.hid (HB0.out.trans (x.below.mono HB0.out.size))
    obtain ⟨b1, _, k1⟩ := one_z ((x.below.block w.heap.size (by omega)).trans H1.out)
    by_cases hltj : j < sn
    · obtain ⟨b, off, hsa, hb2, hcl⟩ := H.out.1.2.2.2 j (by omega)
      rw [HSA.out] at hsa
      subst hsa
      have hfl8 := HF.out j (by omega)
      have q4 := hcl 4 (by omega)
      rw [← HBE.out.cell (p := ⟨b, _, none⟩) hb2] at q4
      have hb3 : b < x.val.heap.size := by omega
      simp only [Tb.cells, Sl.v, List.getElem?_cons_zero, List.getElem?_cons_succ] at q4
      have Q4 := Lib.hid (hcl 4 (by omega))
      clear hcl
      generalize hfln : (tb j).fs.len = fln at hfl8 q4
      go_wp2_with fail
      go_loopw [5] (fun i wr => ∃ k : Nat, k ≤ fln ∧ i = .int .i64 (k : Nat) ∧ (∀ i, i < k → tgtB sl tb (j : Nat) (i : Nat) = true) ∧ Cls x.val wr) (fun i _ => fln - (intOf i).toNat)
      case atStart => exact ⟨0, Nat.zero_le _, rfl, fun i hi => absurd hi (Nat.not_lt_zero _), Cls.of (Below.refl _ _)⟩
      case round =>
        obtain ⟨k, hk, rfl, hok2, y, rfl⟩ := hrel
        have HOK2 := Lib.hid hok2
        clear hok2
        have ys := y.size
        have HBY : Hid (Below w.heap.size w y.val) := Lib.hid (HBE.out.trans (y.below.mono HBE.out.size))
        by_cases hltk : k < fln
        · have C1 : Hid (∀ W, Below w.heap.size w W → Calls Tryz.prog 37 #[.agg #[.slice (some ⟨b, off, none⟩) sn sl.cap], .int .i64 (j : Nat), .int .i64 (k : Nat)] W fun r w' => r = .returned (.tuple #[.int .i64 (tgN sl tb j k : Nat), .bool (tgtB sl tb (j : Nat) (k : Nat))]) ∧ Cls W w') := Lib.hid (fun W hW => by
            have h1 := rTarget_calls sl tb (j : Nat) (k : Nat) W (H.out.later hW)
            rw [tgt_nat, HSA.out, hsn] at h1
            exact h1)
          cases hbb : tgtB sl tb (j : Nat) (k : Nat)
          all_goals
            have HBB := Lib.hid hbb
            rw [hbb] at C1
            clear hbb
            generalize tgN sl tb j k = tt at C1
            go_wp2_with (go_at_call 37; ((with_reducible refine (C1.out _ HBY.out).mono ?_); rintro r _ ⟨rfl, z, rfl⟩))
          · go_ret2
            refine .inl ⟨fun hall => ?_, rfl, Cls.of (HBY.out.trans (z.below.mono HBY.out.size))⟩
            have := hall j (by omega) k (by omega)
            rw [HBB.out] at this
            cases this
          · go_roundw
            case rel =>
              refine ⟨k + 1, by omega, by go_num, fun i hi => ?_, Cls.of (y.below.trans (z.below.mono y.size))⟩
              by_cases e : i = k
              · subst e; exact HBB.out
              · exact HOK2.out i (by omega)
            case measure => simp [intOf]; omega
        · go_wp2_with fail
          go_roundw
          case rel =>
            refine ⟨j + 1, by omega, by go_num, fun i hi k' hk' => ?_, Cls.of (x.below.trans (y.below.mono x.size))⟩
            by_cases e : i = j
            · subst e; exact HOK2.out k' (by omega)
            · exact HOK.out i (by omega) k' hk'
          case measure => simp [intOf]; omega
    · have hall : allT sl tb := fun i hi k hk => HOK.out i (by omega) k hk
      have HAll := Lib.hid hall
      clear hall HOK
      go_wp2_with fail
      have hd0 := DoneAt.made x.val sn
      have HBW : Hid (Below w.heap.size w (x.val.alloc (.cells (madeCells #[.bool false] sn) 4))) := Lib.hid (by exact HBE.out.alloc (by omega) _)
      have H2 : Hid ((x.val.alloc (.cells (madeCells #[.bool false] sn) 4)).heap[w.heap.size]? = some (.cells #[.slice sa sn sl.cap] 28)) := Lib.hid ((Below.heap_alloc _ _ _ (by omega)).trans ((x.below.block w.heap.size (by omega)).trans H1.out))
      have hdl : x.val.heap.size + 1 ≤ (x.val.alloc (.cells (madeCells #[.bool false] sn) 4)).heap.size := by simp
      have hxl : w.heap.size + 1 ≤ x.val.heap.size := by omega
      have HD0 := Lib.hid hd0
      clear hd0 k1 HBE HB0 H1
      generalize (x.val.alloc (.cells (madeCells #[.bool false] sn) 4)) = W2 at HBW H2 hdl HD0 ⊢
      generalize x.val.heap.size = db at hdl hxl HD0 ⊢
      go_loopw [9] (fun u wr => ∃ k : Nat, k ≤ sn ∧ (ordL sl tb k).length = k ∧ wr.ownsRow W2.heap.size 3 1 u k (flatN (ordL sl tb k)) ∧ DoneAt wr db sn (ordL sl tb k) ∧ Tp db W2 wr) (fun u _ => sn - lenV u)
      case atStart => exact ⟨0, Nat.zero_le _, rfl, World.ownsRow_nil _ _ _ 1, HD0.out, Tp.refl _ _⟩
      case round =>
        obtain ⟨k, hk, hl, ho, hd, ht⟩ := hrel
        obtain ⟨⟨ua, un, uc⟩, hu, hul, hsat⟩ := sl_ofN ho hl
        have hu2 : _ = Value.slice ua un uc := hu
        clear hu
        subst hu2
        simp only at hul
        subst hul
        have HL := Lib.hid hl
        have HO := Lib.hid ho
        have HD := Lib.hid hd
        have HT := Lib.hid ht
        have HSat := Lib.hid hsat
        have hsz := ht.size
        have hdl2 := hd.lt
        have HBR : Hid (Below w.heap.size w wr) := Lib.hid (HBW.out.trans (ht.toBelow (by omega) (by omega)))
        obtain ⟨bs1, _, k1⟩ := one_z ((ht.block w.heap.size (by omega) (by omega)).trans H2.out)
        clear hl ho hd ht hsat
        by_cases hltk : un < sn
        · go_wp2_with fail
          go_loopw [10, 11] (fun a i wr4 => ∃ j : Nat, j ≤ sn ∧ i = .int .i64 (j : Nat) ∧ AtIs sl tb (ordL sl tb un) sn j a ∧ Cls wr wr4) (fun _ i _ => sn - (intOf i).toNat)
          case atStart => exact ⟨0, Nat.zero_le _, rfl, .inl ⟨rfl, rfl⟩, Cls.of (Below.refl _ _)⟩
          case round =>
            obtain ⟨j4, hj4, rfl, hat, y, rfl⟩ := hrel
            have ys := y.size
            have HB4 : Hid (Below w.heap.size w y.val) := Lib.hid (HBR.out.trans (y.below.mono HBR.out.size))
            have k4 : y.val.cell? ⟨w.heap.size, 0, none⟩ = some (.slice sa sn sl.cap) := by rw [y.below.cell (p := ⟨w.heap.size, 0, none⟩) bs1]; exact k1
            have hby : w.heap.size < y.val.heap.size := by omega
            rcases hat with ⟨rfl, he⟩ | ⟨q, rfl, he, hq⟩
            · have HE := Lib.hid he
              clear he
              by_cases hlt4 : j4 < sn
              · have hS : Hid (sn - j4 = (sn - (j4 + 1)) + 1) := Lib.hid (by omega)
                have hdc := (HD.out.later y.below).cell (i := j4) hlt4
                rw [Nat.zero_add] at hdc
                obtain ⟨b, off, hsa, hb2, hcl⟩ := H.out.1.2.2.2 j4 (by omega)
                rw [HSA.out] at hsa
                subst hsa
                have hfl8 := HF.out j4 (by omega)
                have q4 := hcl 4 (by omega)
                rw [← HB4.out.cell (p := ⟨b, _, none⟩) hb2] at q4
                have hb3 : b < y.val.heap.size := by have := HB4.out.size; omega
                simp only [Tb.cells, Sl.v, List.getElem?_cons_zero, List.getElem?_cons_succ] at q4
                clear hcl
                have hG : good sl tb (ordL sl tb un) j4 = (!(ordL sl tb un).contains j4 && (tgL sl tb j4 (tb j4).fs.len).all fun t => (ordL sl tb un).contains t) := rfl
                generalize hcj : (ordL sl tb un).contains j4 = cj at hdc hG
                clear hcj
                generalize hfln : (tb j4).fs.len = fln at hfl8 q4 hG
                have HG := Lib.hid hG
                have HFLN := Lib.hid hfln
                clear hG hfln
                go_wp2_with fail
                go_loopw [12, 13] (fun r kk wr5 => ∃ (k5 : Nat) (rb : Bool), k5 ≤ fln ∧ kk = .int .i64 (k5 : Nat) ∧ r = .bool rb ∧ rb = (!cj && (tgL sl tb j4 k5).all fun t => (ordL sl tb un).contains t) ∧ Cls y.val wr5) (fun _ kk _ => fln - (intOf kk).toNat)
                case atStart => exact ⟨0, !cj, Nat.zero_le _, rfl, rfl, by simp [tgL], Cls.of (Below.refl _ _)⟩
                case round =>
                  obtain ⟨k5, rb, hk5, rfl, rfl, hrb, z, rfl⟩ := hrel
                  have HRB := Lib.hid hrb
                  clear hrb
                  have zs := z.size
                  have HB5 : Hid (Below w.heap.size w z.val) := Lib.hid (HB4.out.trans (z.below.mono HB4.out.size))
                  by_cases hlt5 : k5 < fln
                  · have htl : tgN sl tb j4 k5 < sn := by
                      have := tg_lt (HAll.out j4 (by omega) k5 (by rw [HFLN.out]; exact hlt5))
                      omega
                    have C1 : Hid (∀ W, Below w.heap.size w W → Calls Tryz.prog 37 #[.agg #[.slice (some ⟨b, off, none⟩) sn sl.cap], .int .i64 (j4 : Nat), .int .i64 (k5 : Nat)] W fun r w' => r = .returned (.tuple #[.int .i64 (tgN sl tb j4 k5 : Nat), .bool (tgtB sl tb (j4 : Nat) (k5 : Nat))]) ∧ Cls W w') := Lib.hid (fun W hW => by
                      have h1 := rTarget_calls sl tb (j4 : Nat) (k5 : Nat) W (H.out.later hW)
                      rw [tgt_nat, HSA.out, hsn] at h1
                      exact h1)
                    have HAG : Hid ((!cj && (tgL sl tb j4 (k5 + 1)).all fun t => (ordL sl tb un).contains t) = (rb && (ordL sl tb un).contains (tgN sl tb j4 k5))) := Lib.hid (by rw [all_go, HRB.out])
                    generalize tgtB sl tb (j4 : Nat) (k5 : Nat) = tbv at C1
                    have hdt : ∀ W, Below y.val.heap.size y.val W → W.cell? ⟨db, tgN sl tb j4 k5, none⟩ = some (.bool ((ordL sl tb un).contains (tgN sl tb j4 k5))) := fun W hW => by
                      have := (HD.out.later (y.below.trans (hW.mono y.size))).cell htl
                      rwa [Nat.zero_add] at this
                    have HDT := Lib.hid hdt
                    clear hdt
                    generalize (ordL sl tb un).contains (tgN sl tb j4 k5) = ct at HAG HDT
                    generalize tgN sl tb j4 k5 = tt at C1 HDT htl
                    cases rb
                    all_goals
                      go_wp2_with (go_at_call 37; ((with_reducible refine (C1.out _ HB5.out).mono ?_); rintro r _ ⟨rfl, z2, rfl⟩; have hdt2 := HDT.out z2.val (z.below.trans (z2.below.mono z.size))))
                      go_roundw
                      case rel => exact ⟨k5 + 1, _, by omega, by go_num, rfl, by rw [HAG.out]; simp, Cls.of (z.below.trans (z2.below.mono z.size))⟩
                      case measure => simp [intOf]; omega
                  · have hkf : k5 = fln := by omega
                    subst hkf
                    have HG2 : Hid (good sl tb (ordL sl tb un) j4 = rb) := Lib.hid (by rw [HG.out, HRB.out])
                    cases rb
                    · go_wp2_with fail
                      go_roundw
                      case rel => exact ⟨j4 + 1, by omega, by go_num, .inl ⟨rfl, by rw [HE.out, hS.out, idx_go HG2.out]⟩, Cls.of (y.below.trans (z.below.mono y.size))⟩
                      case measure => simp [intOf]; omega
                    · go_wp2_with fail
                      go_roundw
                      case rel => exact ⟨j4 + 1, by omega, by go_num, .inr ⟨j4, rfl, by rw [HE.out, hS.out, idx_stop HG2.out], hlt4⟩, Cls.of (y.below.trans (z.below.mono y.size))⟩
                      case measure => simp [intOf]; omega
              · have hz : Hid (sn - j4 = 0) := Lib.hid (by omega)
                go_wp2_with fail
                go_ret2
                have hi : idx (good sl tb (ordL sl tb un)) 0 sl.len < 0 := by
                  rw [hsn, HE.out, hz.out]
                  show (-1 : Int) < 0
                  omega
                refine .inr (.inl ⟨HAll.out, ?_, rfl, Cls.of HB4.out⟩)
                have := ordL_stop hi (sl.len - un)
                rw [show un + (sl.len - un) = sl.len by omega] at this
                rw [this, HL.out]
                omega
            · have HE := Lib.hid he
              clear he
              have hdq := (HD.out.later y.below).cell hq
              have hfq := (HD.out.later y.below).free q
              have HDS := Lib.hid ((HD.out.later y.below).set hq)
              rw [Nat.zero_add] at hdq HDS
              have HOS : Hid ((y.val.setCell ⟨db, q, none⟩ (.bool true)).ownsRow W2.heap.size 3 1 (.slice ua un uc) un (flatN (ordL sl tb un))) := Lib.hid (own_block (own_later_z HO.out y.below) fun p hp => Below.heap_setCell _ _ _ _ (by have := (HO.out.lt p hp).1; show p ≠ db; omega))
              obtain ⟨i0, hi, hz0, hz1, hz2⟩ := info_parts infoI_z
              have d0 : decide ((q : Int) < 0) = false := by simp
              have hgo : ordL sl tb (un + 1) = ordL sl tb un ++ [q] := by
                have := ordL_go (sl := sl) (tb := tb) (k := un) (by rw [hsn, HE.out]; omega)
                rw [hsn, HE.out] at this
                simpa using this
              have HGO := Lib.hid hgo
              clear hgo
              by_cases hlt4 : j4 < sn
              all_goals
                go_wp2_with (at_builtin; refine wpList_append_own_at _ rfl _ _ 22 rfl W2.heap.size 3 i0 (.int .i64 0) 1 8 Tryz.underlying22 hi hz0 hz1 hz2 rfl (by decide) _ un (flatN (ordL sl tb un)) rfl (own_later_z HOS.out ((Below.refl _ _).alloc (Nat.le_refl _) _)) ⟨y.val.heap.size, 0, none⟩ 1 1 [.int .i64 (q : Nat)] rfl rfl (cells_new_z _ _ _ (by simp [World.setCell])) (int_one_z _) (by unfold maxLen; omega) (by omega) (by simp [World.setCell]; omega) ?_; intro v3 w3 hown3 hg3 _ hat3; have HO3 := Lib.hid hown3; have HG3 := Lib.hid hg3; clear hown3 hg3 hat3)
                have hg3 : World.grownBy ((y.val.setCell ⟨db, q, none⟩ (.bool true)).alloc (.cells #[.int .i64 (q : Nat)] 3)) w3 (Value.slice ua un uc).ownBlock := HG3.out
                refine ⟨⟨un + 1, by omega, by rw [HGO.out, List.length_append, HL.out]; rfl, by rw [HGO.out, flatN_go]; exact HO3.out, ?_, ?_⟩, ?_⟩
                · rw [HGO.out]
                  have h1 := HDS.out.later ((Below.refl _ _).alloc (Nat.le_refl _) (.cells #[.int .i64 (q : Nat)] 3))
                  exact h1.same (hg3.block db h1.lt fun e => by have := (HO.out.lt db e.symm).1; omega)
                · exact ((Tp.setCell (p := ⟨db, q, none⟩) (HT.out.trans (Tp.ofBelow y.below)) (.inr rfl) _).alloc _).grown hg3 fun p hp => (HO.out.lt p hp).1
                · rw [own_lenV HO3.out]
                  simp only [lenV]
                  omega
        · have hk2 : un = sl.len := by omega
          go_wp2_with fail
          go_ret2
          exact .inr (.inr ⟨HAll.out, by rw [← hk2]; exact HL.out, ⟨ua, un, uc⟩, rfl, hk2, by rw [← hk2]; exact HSat.out, Cls.of HBR.out⟩)
end Go.Proofs.YtdmhmlnfoocnjaaGreatDoor
