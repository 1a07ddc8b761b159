/-
  The first error of a schema: the program's Valid. The reference's Order.
-/
import Derived.Test.YtpddkljedhghkaaDoorJ25
import Derived.Test.YtpddkljedhghkaaDoorJ24
import Derived.Deep.OwnRows
set_option linter.unusedVariables false
namespace Go.Proofs.YtpddkljedhghkaaDoor
open Go Go.RowKit Go.Deep
theorem ord_form_v {sl : Sl} {tb : Nat → Tb} {w w' : World} {r : Ending} (hall : allT sl tb) (h : OrdIs sl tb w r w') : ∃ (a : Option Addr) (n c : Nat) (e : Int), r = .returned (.tuple #[.slice a n c, .int .i64 e]) ∧ Cls w w' ∧ ((ordL sl tb sl.len).length < sl.len → e = 7) ∧ ((ordL sl tb sl.len).length = sl.len → e = 0) := by
  rcases h with ⟨a, rfl, c⟩ | ⟨a, b, rfl, c⟩ | ⟨a, b, s, rfl, hs, hat, c⟩
  · exact absurd hall a
  · exact ⟨_, _, _, _, rfl, c, fun _ => rfl, fun h => by omega⟩
  · exact ⟨_, _, _, _, rfl, c, fun h => by omega, fun _ => rfl⟩
theorem ordL_len_le (sl : Sl) (tb : Nat → Tb) : ∀ k, (ordL sl tb k).length ≤ k
  | 0 => Nat.le_refl _
  | k + 1 => by
    have ih := ordL_len_le sl tb k
    unfold ordL
    split
    · rw [List.length_append]
      simp
      exact ih
    · omega
set_option maxHeartbeats 8000000 in
set_option maxRecDepth 20000 in
theorem sValid_calls (sl : Sl) (tb : Nat → Tb) (g : Nat → Nat → Int × Int) (w : World) (h : TabsAt w sl tb) (hg : ∀ i, i < sl.len → ChkT w (tb i) (g i)) :
    Calls Tryd.prog 17 #[.agg #[.slice sl.a sl.len sl.cap]] w fun r w' => r = .returned (.int .i64 (validE sl tb g)) ∧ Cls w w' := by
  have hle := h.1.1
  have hmax := h.1.2.1
  unfold maxLen at hmax
  have HRW : Hid (∀ j, j < sl.len → ∃ b off, sl.a = some ⟨b, off, none⟩ ∧ b < w.heap.size ∧ ∀ i, i < 6 → w.cell? ⟨b, off + j * 6 + i, none⟩ = ((tb j).cells)[i]?) := Lib.hid h.1.2.2.2
  have HFI : Hid (∀ (s : ByteArray) (W : World), Below w.heap.size w W → Calls Tryd.prog 53 #[.agg #[.slice sl.a sl.len sl.cap], .string s] W fun r w' => r = .returned (.tuple #[.int .i64 (at0 (idx (nameP tb s) 0 sl.len)), .bool (decide (0 ≤ idx (nameP tb s) 0 sl.len))]) ∧ Cls W w') := Lib.hid fun s W hW => Find_calls sl tb s W (h.later hW)
  have HTE : Hid (∀ j, j < sl.len → ∀ W, Below w.heap.size w W → Calls Tryd.prog 55 #[.agg #[.string (tb j).name, .slice (tb j).cs.a (tb j).cs.len (tb j).cs.cap, .slice (tb j).ps.a (tb j).ps.len (tb j).ps.cap, .slice (tb j).us.a (tb j).us.len (tb j).us.cap, .slice (tb j).fs.a (tb j).fs.len (tb j).fs.cap, .slice (tb j).ks.a (tb j).ks.len (tb j).ks.cap]] W fun r w' => r = .returned (.int .i64 (tableE (tb j) (g j))) ∧ Cls W w') := Lib.hid fun j hj W hW => tableError_calls (tb j) (g j) W ((h.2 j hj).later hW) ((hg j hj).later hW)
  have HNS : Hid (∀ j, j < sl.len → (tb j).name.size ≤ maxLen) := Lib.hid fun j hj => (h.2 j hj).name
  have HTG : Hid (fstE (vtE sl tb g) 0 sl.len = 0 → ∀ W, Below w.heap.size w W → Calls Tryd.prog 56 #[.agg #[.slice sl.a sl.len sl.cap]] W fun r w' => r = .returned (.int .i64 (tgtE sl tb)) ∧ Cls W w') := Lib.hid fun he W hW => targetError_calls sl tb W (h.later hW) fun i hi => (vtE_key he hi).1
  have HOR : Hid (fstE (vtE sl tb g) 0 sl.len = 0 → sl.len ≤ 10 → ∀ W, Below w.heap.size w W → Calls Tryd.prog 57 #[.agg #[.slice sl.a sl.len sl.cap]] W (OrdIs sl tb W)) := Lib.hid fun he hn W hW => Order_calls sl tb W (h.later hW) hn fun i hi => by
    have := (vtE_key he hi).2
    omega
  have HIS : Hid (∀ j, (nameE (tb j).name (decide (at0 (idx (nameP tb (tb j).name) 0 sl.len) < j)) = 0 → vtE sl tb g j = tableE (tb j) (g j)) ∧ (nameE (tb j).name (decide (at0 (idx (nameP tb (tb j).name) 0 sl.len) < j)) ≠ 0 → vtE sl tb g j = nameE (tb j).name (decide (at0 (idx (nameP tb (tb j).name) 0 sl.len) < j)))) := Lib.hid (vtE_is sl tb g)
  have HV := Lib.hid (validE_is sl tb g)
  have HAL : Hid (tgtE sl tb = 0 → allT sl tb) := Lib.hid tgtE_all
  have HOF : Hid (allT sl tb → ∀ (W : World) (r : Ending) (w' : World), OrdIs sl tb W r w' → ∃ (a : Option Addr) (n c : Nat) (e : Int), r = .returned (.tuple #[.slice a n c, .int .i64 e]) ∧ Cls W w' ∧ ((ordL sl tb sl.len).length < sl.len → e = 7) ∧ ((ordL sl tb sl.len).length = sl.len → e = 0)) := Lib.hid fun ha W r w' ho => ord_form_v ha ho
  have HOL : Hid ((ordL sl tb sl.len).length ≤ sl.len) := Lib.hid (ordL_len_le sl tb sl.len)
  clear h hg
  generalize vtE sl tb g = ve at *
  generalize validE sl tb g = vv at *
  generalize tgtE sl tb = te at *
  generalize OrdIs sl tb = OI at *
  generalize (ordL sl tb sl.len).length = ol at *
  generalize allT sl tb = al at *
  obtain ⟨sa, sn, sc⟩ := sl
  simp only at hle hmax HRW HFI HTE HNS HTG HOR HIS HV HOL HOF ⊢
  go_enter Tryd.func17, Tryd.ntmps17
  by_cases h6 : 6 < sn
  · have d1 : decide ((6 : Int) < (sn : Nat)) = true := by simp; omega
    have HT := Lib.hid (HV.out.1 h6)
    clear HV
    go_wp2_with fail
    go_ret
    refine ⟨ret_int (by rw [HT.out]), Cls.of ?_⟩
    repeat first | with_reducible exact Below.refl _ _ | with_reducible refine Below.setCell ?_ (by first | omega | (simp; done) | (simp; omega)) _ | with_reducible refine Below.alloc ?_ (by first | omega | (simp; done) | (simp; omega)) _ | with_reducible refine Below.drew ?_ | with_reducible refine Ext.on _ ?_ (by first | omega | (simp; done) | (simp; omega))
  have d1 : decide ((6 : Int) < (sn : Nat)) = false := by simp; omega
  have HU := Lib.hid (HV.out.2 h6)
  clear HV
  go_wp2_with fail
  have hbl : (w.alloc (.cells #[.slice sa sn sc] 45)).heap[w.heap.size]? = some (.cells #[.slice sa sn sc] 45) := heap_alloc_new w _
  have HBL := Lib.hid hbl
  have HB0 : Hid (Below w.heap.size w (w.alloc (.cells #[.slice sa sn sc] 45))) := Lib.hid (by repeat first | with_reducible exact Below.refl _ _ | with_reducible refine Below.setCell ?_ (by first | omega | (simp; done) | (simp; omega)) _ | with_reducible refine Below.alloc ?_ (by first | omega | (simp; done) | (simp; omega)) _ | with_reducible refine Below.drew ?_ | with_reducible refine Ext.on _ ?_ (by first | omega | (simp; done) | (simp; omega)))
  have h0s : w.heap.size < (w.alloc (.cells #[.slice sa sn sc] 45)).heap.size := by simp
  clear hbl
  generalize (w.alloc (.cells #[.slice sa sn sc] 45)) = W0 at *
  go_loopw [19] (fun i wr => ∃ j : Nat, j ≤ sn ∧ i = .int .i64 j ∧ fstE ve 0 sn = fstE ve j (sn - j) ∧ Cls W0 wr) (fun i _ => sn - (intOf i).toNat)
  case atStart => exact ⟨0, Nat.zero_le _, rfl, rfl, Cls.of (Below.refl _ _)⟩
  case round =>
    obtain ⟨j, hj, rfl, he, x, rfl⟩ := hrel
    have HE := Lib.hid he
    clear he
    have xs := x.size
    have HBX : Hid (Below w.heap.size w x.val) := Lib.hid (HB0.out.trans (x.below.mono (by omega)))
    have HX0 := Lib.hid x.below
    have hbx0 : w.heap.size < x.val.heap.size := by omega
    have HSX := Lib.hid ((x.below.block _ (by omega)).trans HBL.out)
    clear HB0 HBL
    generalize x.val = X at *
    obtain ⟨b0, _, k1⟩ := one_z HSX.out
    by_cases hltj : j < sn
    · obtain ⟨b, off, ha, hb2, hc⟩ := HRW.out j hltj
      subst ha
      have q0 := hc 0 (by omega)
      have q1 := hc 1 (by omega)
      have q2 := hc 2 (by omega)
      have q3 := hc 3 (by omega)
      have q4 := hc 4 (by omega)
      have q5 := hc 5 (by omega)
      simp only [Tb.cells, Sl.v, List.getElem?_cons_zero, List.getElem?_cons_succ, Nat.add_zero] at q0 q1 q2 q3 q4 q5
      rw [← HBX.out.cell (p := ⟨b, _, none⟩) hb2] at q0 q1 q2 q3 q4 q5
      have hb3 : b < X.heap.size := by omega
      have hS : Hid (sn - j = (sn - (j + 1)) + 1) := Lib.hid (by omega)
      have hP := Lib.hid (HIS.out j)
      have C1 := Lib.hid (HFI.out (tb j).name)
      have C2 := Lib.hid (HTE.out j hltj)
      have hns := HNS.out j hltj
      have C3 : Hid (∀ tk W, Calls Tryd.prog 54 #[.string (tb j).name, .bool tk] W fun r w' => r = .returned (.int .i64 (nameE (tb j).name tk)) ∧ Cls W w') := Lib.hid fun tk W => nameError_calls _ tk W hns
      clear hc hns
      generalize at0 (idx (nameP tb (tb j).name) 0 sn) = a0 at C1 hP
      generalize decide (0 ≤ idx (nameP tb (tb j).name) 0 sn) = bd at C1
      have C4 := Lib.hid (C3.out (decide (a0 < (j : Nat))))
      clear C3
      generalize nameE (tb j).name (decide (a0 < (j : Nat))) = ne at C4 hP
      generalize tableE (tb j) (g j) = tv at C2 hP
      have HB1 : Hid (Below w.heap.size w (X.alloc (.cells #[.string (tb j).name, .slice (tb j).cs.a (tb j).cs.len (tb j).cs.cap, .slice (tb j).ps.a (tb j).ps.len (tb j).ps.cap, .slice (tb j).us.a (tb j).us.len (tb j).us.cap, .slice (tb j).fs.a (tb j).fs.len (tb j).fs.cap, .slice (tb j).ks.a (tb j).ks.len (tb j).ks.cap] 53))) := Lib.hid (HBX.out.trans (((Below.refl _ _).alloc (Nat.le_refl _) _).mono HBX.out.size))
      have HBN : Hid (Below W0.heap.size W0 (X.alloc (.cells #[.string (tb j).name, .slice (tb j).cs.a (tb j).cs.len (tb j).cs.cap, .slice (tb j).ps.a (tb j).ps.len (tb j).ps.cap, .slice (tb j).us.a (tb j).us.len (tb j).us.cap, .slice (tb j).fs.a (tb j).fs.len (tb j).fs.cap, .slice (tb j).ks.a (tb j).ks.len (tb j).ks.cap] 53))) := Lib.hid (HX0.out.trans (((Below.refl _ _).alloc (Nat.le_refl _) _).mono HX0.out.size))
      have ha1 : X.heap.size < (X.alloc (.cells #[.string (tb j).name, .slice (tb j).cs.a (tb j).cs.len (tb j).cs.cap, .slice (tb j).ps.a (tb j).ps.len (tb j).ps.cap, .slice (tb j).us.a (tb j).us.len (tb j).us.cap, .slice (tb j).fs.a (tb j).fs.len (tb j).fs.cap, .slice (tb j).ks.a (tb j).ks.len (tb j).ks.cap] 53)).heap.size := by simp
      by_cases hne : ne = 0
      · have d2 : (ne == 0) = true := by simp [hne]
        have d2' : (ne != 0) = false := by simp [hne]
        have hP2 := Lib.hid (hP.out.1 hne)
        clear hne hP
        by_cases htv : tv = 0
        · have d3 : (tv == 0) = true := by simp [htv]
          have d3' : (tv != 0) = false := by simp [htv]
          have hP3 : Hid (ve j = 0) := Lib.hid (hP2.out.trans htv)
          clear htv hP2
          go_wp2_with (first | (go_at_call 53; ((with_reducible refine (C1.out _ HB1.out).mono ?_); rintro r _ ⟨rfl, y, rfl⟩; obtain ⟨l1, l2, l3, l4, l5⟩ := y.lts (b := X.heap.size) ha1; have ys := y.size)) | (go_at_call 54; ((with_reducible refine (C4.out _).mono ?_); rintro r _ ⟨rfl, z, rfl⟩; obtain ⟨l6, l7, l8, l9, l10⟩ := z.lts (b := X.heap.size) (by omega); have zs := z.size)) | (go_at_call 55; ((with_reducible refine (C2.out _ (z.on (y.on HB1.out (by have := HB1.out.size; omega)) (by have := HB1.out.size; omega))).mono ?_); rintro r _ ⟨rfl, v, rfl⟩; obtain ⟨l11, l12, l13, l14, l15⟩ := v.lts (b := X.heap.size) (by omega); have vs := v.size)))
          go_roundw
          case rel => exact ⟨j + 1, by omega, by go_num, by rw [HE.out, hS.out, fstE_go hP3.out], Cls.of (v.on (z.on (y.on HBN.out (by omega)) (by omega)) (by omega))⟩
          case measure => simp [intOf]; omega
        · have d3 : (tv == 0) = false := by simp [htv]
          have d3' : (tv != 0) = true := by simp [htv]
          have HTV := Lib.hid htv
          clear htv
          go_wp2_with (first | (go_at_call 53; ((with_reducible refine (C1.out _ HB1.out).mono ?_); rintro r _ ⟨rfl, y, rfl⟩; obtain ⟨l1, l2, l3, l4, l5⟩ := y.lts (b := X.heap.size) ha1; have ys := y.size)) | (go_at_call 54; ((with_reducible refine (C4.out _).mono ?_); rintro r _ ⟨rfl, z, rfl⟩; obtain ⟨l6, l7, l8, l9, l10⟩ := z.lts (b := X.heap.size) (by omega); have zs := z.size)) | (go_at_call 55; ((with_reducible refine (C2.out _ (z.on (y.on HB1.out (by have := HB1.out.size; omega)) (by have := HB1.out.size; omega))).mono ?_); rintro r _ ⟨rfl, v, rfl⟩; obtain ⟨l11, l12, l13, l14, l15⟩ := v.lts (b := X.heap.size) (by omega); have vs := v.size)))
          go_ret
          have hfe : fstE ve 0 sn = tv := by rw [HE.out, hS.out, fstE_stop (by rw [hP2.out]; exact HTV.out), hP2.out]
          exact ⟨ret_int (by rw [HU.out.1 (by rw [hfe]; exact HTV.out), hfe]), Cls.of (v.on (z.on (y.on HB1.out (by omega)) (by omega)) (by omega))⟩
      · have d2 : (ne == 0) = false := by simp [hne]
        have d2' : (ne != 0) = true := by simp [hne]
        have hP2 := Lib.hid (hP.out.2 hne)
        have HNE := Lib.hid hne
        clear hne hP
        go_wp2_with (first | (go_at_call 53; ((with_reducible refine (C1.out _ HB1.out).mono ?_); rintro r _ ⟨rfl, y, rfl⟩; obtain ⟨l1, l2, l3, l4, l5⟩ := y.lts (b := X.heap.size) ha1; have ys := y.size)) | (go_at_call 54; ((with_reducible refine (C4.out _).mono ?_); rintro r _ ⟨rfl, z, rfl⟩; obtain ⟨l6, l7, l8, l9, l10⟩ := z.lts (b := X.heap.size) (by omega); have zs := z.size)))
        go_ret
        have hfe : fstE ve 0 sn = ne := by rw [HE.out, hS.out, fstE_stop (by rw [hP2.out]; exact HNE.out), hP2.out]
        exact ⟨ret_int (by rw [HU.out.1 (by rw [hfe]; exact HNE.out), hfe]), Cls.of (z.on (y.on HB1.out (by omega)) (by omega))⟩
    · have hz : Hid (sn - j = 0) := Lib.hid (by omega)
      have hfe : fstE ve 0 sn = 0 := by rw [HE.out, hz.out]; rfl
      have HU2 := Lib.hid (HU.out.2 hfe)
      have C1 := Lib.hid (HTG.out hfe)
      have C2 := Lib.hid (HOR.out hfe (by omega))
      clear HU HTG HOR hfe HE hz
      by_cases hte : te = 0
      · have d2 : (te == 0) = true := by simp [hte]
        have d2' : (te != 0) = false := by simp [hte]
        have HU3 := Lib.hid (HU2.out.2 hte)
        have HOG := Lib.hid (HOF.out (HAL.out hte))
        clear HU2 hte HOF HAL
        go_wp2_with (first | (go_at_call 56; ((with_reducible refine (C1.out _ HBX.out).mono ?_); rintro r _ ⟨rfl, y, rfl⟩; have ys := y.size; obtain ⟨l1, l2, l3, l4, l5⟩ := y.lts (b := w.heap.size) hbx0)) | (go_at_call 57; ((with_reducible refine (C2.out _ (y.on HBX.out (by omega))).mono ?_); rintro r w3 hq; obtain ⟨oa, on, oc, oe, rfl, ⟨z, rfl⟩, ho1, ho2⟩ := HOG.out _ _ _ hq; have HO1 := Lib.hid (And.intro ho1 ho2); clear hq ho1 ho2)))
        go_ret
        refine ⟨ret_int ?_, Cls.of (z.on (y.on HBX.out (by omega)) (by omega))⟩
        rcases Nat.lt_or_ge ol sn with hol | hol
        · rw [HU3.out.1 hol, HO1.out.1 hol]
        · have hol2 : ol = sn := Nat.le_antisymm HOL.out hol
          rw [HU3.out.2 hol2, HO1.out.2 hol2]
      · have d2 : (te == 0) = false := by simp [hte]
        have d2' : (te != 0) = true := by simp [hte]
        have HU3 := Lib.hid (HU2.out.1 hte)
        clear HU2 hte
        go_wp2_with (go_at_call 56; ((with_reducible refine (C1.out _ HBX.out).mono ?_); rintro r _ ⟨rfl, y, rfl⟩))
        go_ret
        exact ⟨ret_int (by rw [HU3.out]), Cls.of (y.on HBX.out (by omega))⟩
end Go.Proofs.YtpddkljedhghkaaDoor
set_option linter.unusedVariables false
namespace Go.Proofs.YtpddkljedhghkaaDoor
open Go Go.RowKit Go.Deep
/-- Block db tells which of n tables are in the order. -/
def DoneAt (w : World) (db n : Nat) (l : List Nat) : Prop := ∃ C : Array Value, w.heap[db]? = some (.cells C 4) ∧ C.size = n ∧ ∀ i, i < n → C[i]? = some (.bool (l.contains i))
theorem DoneAt.same {w w' : World} {db n : Nat} {l : List Nat} (h : DoneAt w db n l) (hb : w'.heap[db]? = w.heap[db]?) : DoneAt w' db n l := by
  obtain ⟨C, h1, h2⟩ := h
  exact ⟨C, hb.trans h1, h2⟩
theorem DoneAt.lt {w : World} {db n : Nat} {l : List Nat} (h : DoneAt w db n l) : db < w.heap.size := by
  obtain ⟨C, h1, _⟩ := h
  exact (Array.getElem?_eq_some_iff.1 h1).1
theorem DoneAt.later {w w' : World} {db n : Nat} {l : List Nat} (h : DoneAt w db n l) (hb : Below w.heap.size w w') : DoneAt w' db n l := h.same (hb.block db h.lt)
theorem DoneAt.cell {w : World} {db n : Nat} {l : List Nat} (h : DoneAt w db n l) {i : Nat} (hi : i < n) : w.cell? ⟨db, 0 + i, none⟩ = some (.bool (l.contains i)) := by
  obtain ⟨C, h1, _, h3⟩ := h
  rw [Nat.zero_add, cell_of_row _ _ _ _ _ (0, 0) h1]
  exact h3 i hi
theorem DoneAt.free {w : World} {db n : Nat} {l : List Nat} (h : DoneAt w db n l) (i : Nat) : w.frozen? ⟨db, i, none⟩ = false := by
  obtain ⟨C, h1, _⟩ := h
  exact free_z h1 i
theorem DoneAt.set {w : World} {db n i : Nat} {l : List Nat} (h : DoneAt w db n l) (hi : i < n) : DoneAt (w.setCell ⟨db, 0 + i, none⟩ (.bool true)) db n (l ++ [i]) := by
  obtain ⟨C, h1, h2, h3⟩ := h
  refine ⟨C.setIfInBounds i (.bool true), ?_, by simpa using h2, fun j hj => ?_⟩
  · simp only [World.setCell, Array.getElem?_modify, h1]
    simp
  · by_cases e : i = j
    · subst e
      rw [Array.getElem?_setIfInBounds_self_of_lt (by omega)]
      simp
    · rw [Array.getElem?_setIfInBounds_ne e, h3 j hj]
      have e2 : j ≠ i := fun h => e h.symm
      simp [e2]
theorem DoneAt.made (w : World) (n : Nat) : DoneAt (w.alloc (.cells (madeCells #[.bool false] n) 4)) w.heap.size n [] :=
  ⟨_, heap_alloc_new w _, by rw [size_madeCells], fun i hi => by
    have h := toList_madeCells_one (.bool false) n
    have h2 : (madeCells #[.bool false] n)[i]? = (madeCells #[Value.bool false] n).toList[i]? := by simp
    rw [h2, h]
    simp [hi]⟩
theorem infoB : (Tryd.prog.info? 4).map (fun i => (i.zero, i.size, i.bytes)) = some (some (.bool false), 1, 1) := by kernel_rfl
theorem all_go {sl : Sl} {tb : Nat → Tb} {j k : Nat} {cj : Bool} {p : Nat → Bool} : (!cj && (tgL sl tb j (k + 1)).all p) = ((!cj && (tgL sl tb j k).all p) && p (tgN sl tb j k)) := by
  rw [tgL_go, List.all_append]
  simp [Bool.and_assoc]
/-- What the search for the next table knows ahead of table j. -/
def AtIs (sl : Sl) (tb : Nat → Tb) (l : List Nat) (sn j : Nat) (a : Value) : Prop :=
  (a = .int .i64 (-1) ∧ idx (good sl tb l) 0 sn = idx (good sl tb l) j (sn - j)) ∨ ∃ q : Nat, a = .int .i64 (q : Nat) ∧ idx (good sl tb l) 0 sn = (q : Nat) ∧ q < sn
set_option maxHeartbeats 8000000 in
set_option maxRecDepth 20000 in
theorem rOrder_calls (sl : Sl) (tb : Nat → Tb) (w : World) (h : TabsAt w sl tb) (hn : sl.len ≤ 10) (hf : ∀ i, i < sl.len → (tb i).fs.len ≤ 8) :
    Calls Tryd.prog 62 #[.agg #[.slice sl.a sl.len sl.cap]] w (OrdIs sl tb w) := by
  have hle := h.1.1
  have hmax := h.1.2.1
  unfold maxLen at hmax
  have H := Lib.hid h
  have HF := Lib.hid hf
  have H1 : Hid ((w.alloc (.cells #[.slice sl.a sl.len sl.cap] 45)).heap[w.heap.size]? = some (.cells #[.slice sl.a sl.len sl.cap] 45)) := Lib.hid (heap_alloc_new w _)
  have HB0 : Hid (Below w.heap.size w (w.alloc (.cells #[.slice sl.a sl.len sl.cap] 45))) := Lib.hid ((Below.refl _ _).alloc (Nat.le_refl _) _)
  have hmk := fun W => run_make_row' (P := Tryd.prog) 131 4 (.bool false) 1 Tryd.underlying131 infoB rfl .i64 .i64 sl.len (by omega) (by omega) W
  clear h hf
  generalize hsn : sl.len = sn at hle hmax hn H1 HB0 hmk
  generalize hsa0 : sl.a = sa at H1 HB0
  have HSA := Lib.hid hsa0
  clear hsa0
  go_enter Tryd.func62, Tryd.ntmps62
  go_wp2_with fail
  have hs0 : w.heap.size + 1 ≤ (w.alloc (.cells #[.slice sa sn sl.cap] 45)).heap.size := by simp
  generalize (w.alloc (.cells #[.slice sa sn sl.cap] 45)) = W0 at H1 HB0 hs0 ⊢
  go_loopw [4] (fun i wr => ∃ j : Nat, j ≤ sn ∧ i = .int .i64 (j : Nat) ∧ (∀ i, i < j → ∀ k, k < (tb i).fs.len → tgtB sl tb (i : Nat) (k : Nat) = true) ∧ Cls W0 wr) (fun i _ => sn - (intOf i).toNat)
  case atStart => exact ⟨0, Nat.zero_le _, rfl, fun i hi => absurd hi (Nat.not_lt_zero _), Cls.of (Below.refl _ _)⟩
  case round =>
    obtain ⟨j, hj, rfl, hok, x, rfl⟩ := hrel
    have HOK := Lib.hid hok
    clear hok
    have xs := x.size
    have HBE : Hid (Below w.heap.size w x.val) := Lib.hid (HB0.out.trans (x.below.mono HB0.out.size))
    obtain ⟨b1, _, k1⟩ := one_z ((x.below.block w.heap.size (by omega)).trans H1.out)
    by_cases hltj : j < sn
    · obtain ⟨b, off, hsa, hb2, hcl⟩ := H.out.1.2.2.2 j (by omega)
      rw [HSA.out] at hsa
      subst hsa
      have hfl8 := HF.out j (by omega)
      have q4 := hcl 4 (by omega)
      rw [← HBE.out.cell (p := ⟨b, _, none⟩) hb2] at q4
      have hb3 : b < x.val.heap.size := by omega
      simp only [Tb.cells, Sl.v, List.getElem?_cons_zero, List.getElem?_cons_succ] at q4
      have Q4 := Lib.hid (hcl 4 (by omega))
      clear hcl
      generalize hfln : (tb j).fs.len = fln at hfl8 q4
      go_wp2_with fail
      go_loopw [5] (fun i wr => ∃ k : Nat, k ≤ fln ∧ i = .int .i64 (k : Nat) ∧ (∀ i, i < k → tgtB sl tb (j : Nat) (i : Nat) = true) ∧ Cls x.val wr) (fun i _ => fln - (intOf i).toNat)
      case atStart => exact ⟨0, Nat.zero_le _, rfl, fun i hi => absurd hi (Nat.not_lt_zero _), Cls.of (Below.refl _ _)⟩
      case round =>
        obtain ⟨k, hk, rfl, hok2, y, rfl⟩ := hrel
        have HOK2 := Lib.hid hok2
        clear hok2
        have ys := y.size
        have HBY : Hid (Below w.heap.size w y.val) := Lib.hid (HBE.out.trans (y.below.mono HBE.out.size))
        by_cases hltk : k < fln
        · have C1 : Hid (∀ W, Below w.heap.size w W → Calls Tryd.prog 61 #[.agg #[.slice (some ⟨b, off, none⟩) sn sl.cap], .int .i64 (j : Nat), .int .i64 (k : Nat)] W fun r w' => r = .returned (.tuple #[.int .i64 (tgN sl tb j k : Nat), .bool (tgtB sl tb (j : Nat) (k : Nat))]) ∧ Cls W w') := Lib.hid (fun W hW => by
            have h1 := rTarget_calls sl tb (j : Nat) (k : Nat) W (H.out.later hW)
            rw [tgt_nat, HSA.out, hsn] at h1
            exact h1)
          cases hbb : tgtB sl tb (j : Nat) (k : Nat)
          all_goals
            have HBB := Lib.hid hbb
            rw [hbb] at C1
            clear hbb
            generalize tgN sl tb j k = tt at C1
            go_wp2_with (go_at_call 61; ((with_reducible refine (C1.out _ HBY.out).mono ?_); rintro r _ ⟨rfl, z, rfl⟩))
          · go_ret2
            refine .inl ⟨fun hall => ?_, rfl, Cls.of (HBY.out.trans (z.below.mono HBY.out.size))⟩
            have := hall j (by omega) k (by omega)
            rw [HBB.out] at this
            cases this
          · go_roundw
            case rel =>
              refine ⟨k + 1, by omega, by go_num, fun i hi => ?_, Cls.of (y.below.trans (z.below.mono y.size))⟩
              by_cases e : i = k
              · subst e; exact HBB.out
              · exact HOK2.out i (by omega)
            case measure => simp [intOf]; omega
        · go_wp2_with fail
          go_roundw
          case rel =>
            refine ⟨j + 1, by omega, by go_num, fun i hi k' hk' => ?_, Cls.of (x.below.trans (y.below.mono x.size))⟩
            by_cases e : i = j
            · subst e; exact HOK2.out k' (by omega)
            · exact HOK.out i (by omega) k' hk'
          case measure => simp [intOf]; omega
    · have hall : allT sl tb := fun i hi k hk => HOK.out i (by omega) k hk
      have HAll := Lib.hid hall
      clear hall HOK
      go_wp2_with fail
      have hd0 := DoneAt.made x.val sn
      have HBW : Hid (Below w.heap.size w (x.val.alloc (.cells (madeCells #[.bool false] sn) 4))) := Lib.hid (by exact HBE.out.alloc (by omega) _)
      have H2 : Hid ((x.val.alloc (.cells (madeCells #[.bool false] sn) 4)).heap[w.heap.size]? = some (.cells #[.slice sa sn sl.cap] 45)) := Lib.hid ((Below.heap_alloc _ _ _ (by omega)).trans ((x.below.block w.heap.size (by omega)).trans H1.out))
      have hdl : x.val.heap.size + 1 ≤ (x.val.alloc (.cells (madeCells #[.bool false] sn) 4)).heap.size := by simp
      have hxl : w.heap.size + 1 ≤ x.val.heap.size := by omega
      have HD0 := Lib.hid hd0
      clear hd0 k1 HBE HB0 H1
      generalize (x.val.alloc (.cells (madeCells #[.bool false] sn) 4)) = W2 at HBW H2 hdl HD0 ⊢
      generalize x.val.heap.size = db at hdl hxl HD0 ⊢
      go_loopw [9] (fun u wr => ∃ k : Nat, k ≤ sn ∧ (ordL sl tb k).length = k ∧ wr.ownsRow W2.heap.size 3 1 u k (flatN (ordL sl tb k)) ∧ DoneAt wr db sn (ordL sl tb k) ∧ Tp db W2 wr) (fun u _ => sn - lenV u)
      case atStart => exact ⟨0, Nat.zero_le _, rfl, World.ownsRow_nil _ _ _ 1, HD0.out, Tp.refl _ _⟩
      case round =>
        obtain ⟨k, hk, hl, ho, hd, ht⟩ := hrel
        obtain ⟨⟨ua, un, uc⟩, hu, hul, hsat⟩ := sl_ofN ho hl
        have hu2 : _ = Value.slice ua un uc := hu
        clear hu
        subst hu2
        simp only at hul
        subst hul
        have HL := Lib.hid hl
        have HO := Lib.hid ho
        have HD := Lib.hid hd
        have HT := Lib.hid ht
        have HSat := Lib.hid hsat
        have hsz := ht.size
        have hdl2 := hd.lt
        have HBR : Hid (Below w.heap.size w wr) := Lib.hid (HBW.out.trans (ht.toBelow (by omega) (by omega)))
        obtain ⟨bs1, _, k1⟩ := one_z ((ht.block w.heap.size (by omega) (by omega)).trans H2.out)
        clear hl ho hd ht hsat
        by_cases hltk : un < sn
        · go_wp2_with fail
          go_loopw [10, 11] (fun a i wr4 => ∃ j : Nat, j ≤ sn ∧ i = .int .i64 (j : Nat) ∧ AtIs sl tb (ordL sl tb un) sn j a ∧ Cls wr wr4) (fun _ i _ => sn - (intOf i).toNat)
          case atStart => exact ⟨0, Nat.zero_le _, rfl, .inl ⟨rfl, rfl⟩, Cls.of (Below.refl _ _)⟩
          case round =>
            obtain ⟨j4, hj4, rfl, hat, y, rfl⟩ := hrel
            have ys := y.size
            have HB4 : Hid (Below w.heap.size w y.val) := Lib.hid (HBR.out.trans (y.below.mono HBR.out.size))
            have k4 : y.val.cell? ⟨w.heap.size, 0, none⟩ = some (.slice sa sn sl.cap) := by rw [y.below.cell (p := ⟨w.heap.size, 0, none⟩) bs1]; exact k1
            have hby : w.heap.size < y.val.heap.size := by omega
            rcases hat with ⟨rfl, he⟩ | ⟨q, rfl, he, hq⟩
            · have HE := Lib.hid he
              clear he
              by_cases hlt4 : j4 < sn
              · have hS : Hid (sn - j4 = (sn - (j4 + 1)) + 1) := Lib.hid (by omega)
                have hdc := (HD.out.later y.below).cell (i := j4) hlt4
                rw [Nat.zero_add] at hdc
                obtain ⟨b, off, hsa, hb2, hcl⟩ := H.out.1.2.2.2 j4 (by omega)
                rw [HSA.out] at hsa
                subst hsa
                have hfl8 := HF.out j4 (by omega)
                have q4 := hcl 4 (by omega)
                rw [← HB4.out.cell (p := ⟨b, _, none⟩) hb2] at q4
                have hb3 : b < y.val.heap.size := by have := HB4.out.size; omega
                simp only [Tb.cells, Sl.v, List.getElem?_cons_zero, List.getElem?_cons_succ] at q4
                clear hcl
                have hG : good sl tb (ordL sl tb un) j4 = (!(ordL sl tb un).contains j4 && (tgL sl tb j4 (tb j4).fs.len).all fun t => (ordL sl tb un).contains t) := rfl
                generalize hcj : (ordL sl tb un).contains j4 = cj at hdc hG
                clear hcj
                generalize hfln : (tb j4).fs.len = fln at hfl8 q4 hG
                have HG := Lib.hid hG
                have HFLN := Lib.hid hfln
                clear hG hfln
                go_wp2_with fail
                go_loopw [12, 13] (fun r kk wr5 => ∃ (k5 : Nat) (rb : Bool), k5 ≤ fln ∧ kk = .int .i64 (k5 : Nat) ∧ r = .bool rb ∧ rb = (!cj && (tgL sl tb j4 k5).all fun t => (ordL sl tb un).contains t) ∧ Cls y.val wr5) (fun _ kk _ => fln - (intOf kk).toNat)
                case atStart => exact ⟨0, !cj, Nat.zero_le _, rfl, rfl, by simp [tgL], Cls.of (Below.refl _ _)⟩
                case round =>
                  obtain ⟨k5, rb, hk5, rfl, rfl, hrb, z, rfl⟩ := hrel
                  have HRB := Lib.hid hrb
                  clear hrb
                  have zs := z.size
                  have HB5 : Hid (Below w.heap.size w z.val) := Lib.hid (HB4.out.trans (z.below.mono HB4.out.size))
                  by_cases hlt5 : k5 < fln
                  · have htl : tgN sl tb j4 k5 < sn := by
                      have := tg_lt (HAll.out j4 (by omega) k5 (by rw [HFLN.out]; exact hlt5))
                      omega
                    have C1 : Hid (∀ W, Below w.heap.size w W → Calls Tryd.prog 61 #[.agg #[.slice (some ⟨b, off, none⟩) sn sl.cap], .int .i64 (j4 : Nat), .int .i64 (k5 : Nat)] W fun r w' => r = .returned (.tuple #[.int .i64 (tgN sl tb j4 k5 : Nat), .bool (tgtB sl tb (j4 : Nat) (k5 : Nat))]) ∧ Cls W w') := Lib.hid (fun W hW => by
                      have h1 := rTarget_calls sl tb (j4 : Nat) (k5 : Nat) W (H.out.later hW)
                      rw [tgt_nat, HSA.out, hsn] at h1
                      exact h1)
                    have HAG : Hid ((!cj && (tgL sl tb j4 (k5 + 1)).all fun t => (ordL sl tb un).contains t) = (rb && (ordL sl tb un).contains (tgN sl tb j4 k5))) := Lib.hid (by rw [all_go, HRB.out])
                    generalize tgtB sl tb (j4 : Nat) (k5 : Nat) = tbv at C1
                    have hdt : ∀ W, Below y.val.heap.size y.val W → W.cell? ⟨db, tgN sl tb j4 k5, none⟩ = some (.bool ((ordL sl tb un).contains (tgN sl tb j4 k5))) := fun W hW => by
                      have := (HD.out.later (y.below.trans (hW.mono y.size))).cell htl
                      rwa [Nat.zero_add] at this
                    have HDT := Lib.hid hdt
                    clear hdt
                    generalize (ordL sl tb un).contains (tgN sl tb j4 k5) = ct at HAG HDT
                    generalize tgN sl tb j4 k5 = tt at C1 HDT htl
                    cases rb
                    all_goals
                      go_wp2_with (go_at_call 61; ((with_reducible refine (C1.out _ HB5.out).mono ?_); rintro r _ ⟨rfl, z2, rfl⟩; have hdt2 := HDT.out z2.val (z.below.trans (z2.below.mono z.size))))
                      go_roundw
                      case rel => exact ⟨k5 + 1, _, by omega, by go_num, rfl, by rw [HAG.out]; simp, Cls.of (z.below.trans (z2.below.mono z.size))⟩
                      case measure => simp [intOf]; omega
                  · have hkf : k5 = fln := by omega
                    subst hkf
                    have HG2 : Hid (good sl tb (ordL sl tb un) j4 = rb) := Lib.hid (by rw [HG.out, HRB.out])
                    cases rb
                    · go_wp2_with fail
                      go_roundw
                      case rel => exact ⟨j4 + 1, by omega, by go_num, .inl ⟨rfl, by rw [HE.out, hS.out, idx_go HG2.out]⟩, Cls.of (y.below.trans (z.below.mono y.size))⟩
                      case measure => simp [intOf]; omega
                    · go_wp2_with fail
                      go_roundw
                      case rel => exact ⟨j4 + 1, by omega, by go_num, .inr ⟨j4, rfl, by rw [HE.out, hS.out, idx_stop HG2.out], hlt4⟩, Cls.of (y.below.trans (z.below.mono y.size))⟩
                      case measure => simp [intOf]; omega
              · have hz : Hid (sn - j4 = 0) := Lib.hid (by omega)
                go_wp2_with fail
                go_ret2
                have hi : idx (good sl tb (ordL sl tb un)) 0 sl.len < 0 := by
                  rw [hsn, HE.out, hz.out]
                  show (-1 : Int) < 0
                  omega
                refine .inr (.inl ⟨HAll.out, ?_, rfl, Cls.of HB4.out⟩)
                have := ordL_stop hi (sl.len - un)
                rw [show un + (sl.len - un) = sl.len by omega] at this
                rw [this, HL.out]
                omega
            · have HE := Lib.hid he
              clear he
              have hdq := (HD.out.later y.below).cell hq
              have hfq := (HD.out.later y.below).free q
              have HDS := Lib.hid ((HD.out.later y.below).set hq)
              rw [Nat.zero_add] at hdq HDS
              have HOS : Hid ((y.val.setCell ⟨db, q, none⟩ (.bool true)).ownsRow W2.heap.size 3 1 (.slice ua un uc) un (flatN (ordL sl tb un))) := Lib.hid (own_block (own_later_z HO.out y.below) fun p hp => Below.heap_setCell _ _ _ _ (by have := (HO.out.lt p hp).1; show p ≠ db; omega))
              obtain ⟨i0, hi, hz0, hz1, hz2⟩ := info_parts infoI_z
              have d0 : decide ((q : Int) < 0) = false := by simp
              have hgo : ordL sl tb (un + 1) = ordL sl tb un ++ [q] := by
                have := ordL_go (sl := sl) (tb := tb) (k := un) (by rw [hsn, HE.out]; omega)
                rw [hsn, HE.out] at this
                simpa using this
              have HGO := Lib.hid hgo
              clear hgo
              by_cases hlt4 : j4 < sn
              all_goals
                go_wp2_with (at_builtin; refine wpList_append_own_at _ rfl _ _ 22 rfl W2.heap.size 3 i0 (.int .i64 0) 1 8 Tryd.underlying22 hi hz0 hz1 hz2 rfl (by decide) _ un (flatN (ordL sl tb un)) rfl (own_later_z HOS.out ((Below.refl _ _).alloc (Nat.le_refl _) _)) ⟨y.val.heap.size, 0, none⟩ 1 1 [.int .i64 (q : Nat)] rfl rfl (cells_new_z _ _ _ (by simp [World.setCell])) (int_one_z _) (by unfold maxLen; omega) (by omega) (by simp [World.setCell]; omega) ?_; intro v3 w3 hown3 hg3 _ hat3; have HO3 := Lib.hid hown3; have HG3 := Lib.hid hg3; clear hown3 hg3 hat3)
                have hg3 : World.grownBy ((y.val.setCell ⟨db, q, none⟩ (.bool true)).alloc (.cells #[.int .i64 (q : Nat)] 3)) w3 (Value.slice ua un uc).ownBlock := HG3.out
                refine ⟨⟨un + 1, by omega, by rw [HGO.out, List.length_append, HL.out]; rfl, by rw [HGO.out, flatN_go]; exact HO3.out, ?_, ?_⟩, ?_⟩
                · rw [HGO.out]
                  have h1 := HDS.out.later ((Below.refl _ _).alloc (Nat.le_refl _) (.cells #[.int .i64 (q : Nat)] 3))
                  exact h1.same (hg3.block db h1.lt fun e => by have := (HO.out.lt db e.symm).1; omega)
                · exact ((Tp.setCell (p := ⟨db, q, none⟩) (HT.out.trans (Tp.ofBelow y.below)) (.inr rfl) _).alloc _).grown hg3 fun p hp => (HO.out.lt p hp).1
                · rw [own_lenV HO3.out]
                  simp only [lenV]
                  omega
        · have hk2 : un = sl.len := by omega
          go_wp2_with fail
          go_ret2
          exact .inr (.inr ⟨HAll.out, by rw [← hk2]; exact HL.out, ⟨ua, un, uc⟩, rfl, hk2, by rw [← hk2]; exact HSat.out, Cls.of HBR.out⟩)
end Go.Proofs.YtpddkljedhghkaaDoor
