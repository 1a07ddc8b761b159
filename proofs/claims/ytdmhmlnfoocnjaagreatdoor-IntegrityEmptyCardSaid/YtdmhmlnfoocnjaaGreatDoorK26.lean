/-
  The first error of a schema.
-/
import Derived.Test.YtdmhmlnfoocnjaaGreatDoorK25
import Derived.Test.YtdmhmlnfoocnjaaGreatDoorK08
import Derived.Test.YtdmhmlnfoocnjaaGreatDoorK21
import Derived.Test.YtdmhmlnfoocnjaaGreatDoorK07
import Derived.Test.YtdmhmlnfoocnjaaGreatDoorK24
set_option linter.unusedVariables false
namespace Go.Proofs.YtdmhmlnfoocnjaaGreatDoor
open Go Go.RowKit Go.Deep
theorem ord_form_v {sl : Sl} {tb : Nat → Tb} {w w' : World} {r : Ending} (hall : allT sl tb) (h : OrdIs sl tb w r w') : ∃ (a : Option Addr) (n c : Nat) (e : Int), r = .returned (.tuple #[.slice a n c, .int .i64 e]) ∧ Cls w w' ∧ ((ordL sl tb sl.len).length < sl.len → e = 7) ∧ ((ordL sl tb sl.len).length = sl.len → e = 0) := by
  rcases h with ⟨a, rfl, c⟩ | ⟨a, b, rfl, c⟩ | ⟨a, b, s, rfl, hs, hat, c⟩
  · exact absurd hall a
  · exact ⟨_, _, _, _, rfl, c, fun _ => rfl, fun h => by omega⟩
  · exact ⟨_, _, _, _, rfl, c, fun h => by omega, fun _ => rfl⟩
theorem ordL_len_le (sl : Sl) (tb : Nat → Tb) : ∀ k, (ordL sl tb k).length ≤ k
  | 0 => Nat.le_refl _
  | k + 1 => by
    have ih := ordL_len_le sl tb k
    unfold ordL
    split
    · rw [List.length_append]
      simp
      exact ih
    · omega
set_option maxHeartbeats 8000000 in
set_option maxRecDepth 20000 in
theorem sValid_calls (sl : Sl) (tb : Nat → Tb) (g : Nat → Nat → Int × Int) (w : World) (h : TabsAt w sl tb) (hg : ∀ i, i < sl.len → ChkT w (tb i) (g i)) :
    Calls Tryz.prog 27 #[.agg #[.slice sl.a sl.len sl.cap]] w fun r w' => r = .returned (.int .i64 (validE sl tb g)) ∧ Cls w w' := by
  have hle := h.1.1
  have hmax := h.1.2.1
  unfold maxLen at hmax
  have HRW : Hid (∀ j, j < sl.len → ∃ b off, sl.a = some ⟨b, off, none⟩ ∧ b < w.heap.size ∧ ∀ i, i < 6 → w.cell? ⟨b, off + j * 6 + i, none⟩ = ((tb j).cells)[i]?) := Lib.hid h.1.2.2.2
  have HFI : Hid (∀ (s : ByteArray) (W : World), Below w.heap.size w W → Calls Tryz.prog 44 #[.agg #[.slice sl.a sl.len sl.cap], .string s] W fun r w' => r = .returned (.tuple #[.int .i64 (at0 (idx (nameP tb s) 0 sl.len)), .bool (decide (0 ≤ idx (nameP tb s) 0 sl.len))]) ∧ Cls W w') := Lib.hid fun s W hW => Find_calls sl tb s W (h.later hW)
  have HTE : Hid (∀ j, j < sl.len → ∀ W, Below w.heap.size w W → Calls Tryz.prog 46 #[.agg #[.string (tb j).name, .slice (tb j).cs.a (tb j).cs.len (tb j).cs.cap, .slice (tb j).ps.a (tb j).ps.len (tb j).ps.cap, .slice (tb j).us.a (tb j).us.len (tb j).us.cap, .slice (tb j).fs.a (tb j).fs.len (tb j).fs.cap, .slice (tb j).ks.a (tb j).ks.len (tb j).ks.cap]] W fun r w' => r = .returned (.int .i64 (tableE (tb j) (g j))) ∧ Cls W w') := Lib.hid fun j hj W hW => tableError_calls (tb j) (g j) W ((h.2 j hj).later hW) ((hg j hj).later hW)
  have HNS : Hid (∀ j, j < sl.len → (tb j).name.size ≤ maxLen) := Lib.hid fun j hj => (h.2 j hj).name
  have HTG : Hid (fstE (vtE sl tb g) 0 sl.len = 0 → ∀ W, Below w.heap.size w W → Calls Tryz.prog 47 #[.agg #[.slice sl.a sl.len sl.cap]] W fun r w' => r = .returned (.int .i64 (tgtE sl tb)) ∧ Cls W w') := Lib.hid fun he W hW => targetError_calls sl tb W (h.later hW) fun i hi => (vtE_key he hi).1
  have HOR : Hid (fstE (vtE sl tb g) 0 sl.len = 0 → sl.len ≤ 10 → ∀ W, Below w.heap.size w W → Calls Tryz.prog 48 #[.agg #[.slice sl.a sl.len sl.cap]] W (OrdIs sl tb W)) := Lib.hid fun he hn W hW => Order_calls sl tb W (h.later hW) hn fun i hi => by
    have := (vtE_key he hi).2
    omega
  have HIS : Hid (∀ j, (nameE (tb j).name (decide (at0 (idx (nameP tb (tb j).name) 0 sl.len) < j)) = 0 → vtE sl tb g j = tableE (tb j) (g j)) ∧ (nameE (tb j).name (decide (at0 (idx (nameP tb (tb j).name) 0 sl.len) < j)) ≠ 0 → vtE sl tb g j = nameE (tb j).name (decide (at0 (idx (nameP tb (tb j).name) 0 sl.len) < j)))) := Lib.hid (vtE_is sl tb g)
  have HV := Lib.hid (validE_is sl tb g)
  have HAL : Hid (tgtE sl tb = 0 → allT sl tb) := Lib.hid tgtE_all
  have HOF : Hid (allT sl tb → ∀ (W : World) (r : Ending) (w' : World), OrdIs sl tb W r w' → ∃ (a : Option Addr) (n c : Nat) (e : Int), r = .returned (.tuple #[.slice a n c, .int .i64 e]) ∧ Cls W w' ∧ ((ordL sl tb sl.len).length < sl.len → e = 7) ∧ ((ordL sl tb sl.len).length = sl.len → e = 0)) := Lib.hid fun ha W r w' ho => ord_form_v ha ho
  have HOL : Hid ((ordL sl tb sl.len).length ≤ sl.len) := Lib.hid (ordL_len_le sl tb sl.len)
  clear h hg
  generalize vtE sl tb g = ve at *
  generalize validE sl tb g = vv at *
  generalize tgtE sl tb = te at *
  generalize OrdIs sl tb = OI at *
  generalize (ordL sl tb sl.len).length = ol at *
  generalize allT sl tb = al at *
  obtain ⟨sa, sn, sc⟩ := sl
  simp only at hle hmax HRW HFI HTE HNS HTG HOR HIS HV HOL HOF ⊢
  go_enter Tryz.func27, Tryz.ntmps27
  by_cases h6 : 6 < sn
  · have d1 : decide ((6 : Int) < (sn : Nat)) = true := by simp; omega
    have HT := Lib.hid (HV.out.1 h6)
    clear HV
    go_wp2_with fail
    go_ret
    refine ⟨ret_int (by rw [HT.out]), Cls.of ?_⟩
    repeat first|with_reducible exact Below.refl _ _|with_reducible refine Below.setCell ?_ (by first|omega|(simp;done)|(simp;omega)) _|with_reducible refine Below.alloc ?_ (by first|omega|(simp;done)|(simp;omega)) _|with_reducible refine Below.drew ?_|with_reducible refine Ext.on _ ?_ (by first|omega|(simp;done)|(simp;omega))
  have d1 : decide ((6 : Int) < (sn : Nat)) = false := by simp; omega
  have HU := Lib.hid (HV.out.2 h6)
  clear HV
  go_wp2_with fail
  have hbl : (w.alloc (.cells #[.slice sa sn sc] 28)).heap[w.heap.size]? = some (.cells #[.slice sa sn sc] 28) := heap_alloc_new w _
  have HBL := Lib.hid hbl
  have HB0 : Hid (Below w.heap.size w (w.alloc (.cells #[.slice sa sn sc] 28))) := Lib.hid (by repeat first|with_reducible exact Below.refl _ _|with_reducible refine Below.setCell ?_ (by first|omega|(simp;done)|(simp;omega)) _|with_reducible refine Below.alloc ?_ (by first|omega|(simp;done)|(simp;omega)) _|with_reducible refine Below.drew ?_|with_reducible refine Ext.on _ ?_ (by first|omega|(simp;done)|(simp;omega)))
  have h0s : w.heap.size < (w.alloc (.cells #[.slice sa sn sc] 28)).heap.size := by simp
  clear hbl
  generalize (w.alloc (.cells #[.slice sa sn sc] 28)) = W0 at *
  go_loopw [19] (fun i wr => ∃ j : Nat, j ≤ sn ∧ i = .int .i64 j ∧ fstE ve 0 sn = fstE ve j (sn - j) ∧ Cls W0 wr) (fun i _ => sn - (intOf i).toNat)
  case atStart => exact ⟨0, Nat.zero_le _, rfl, rfl, Cls.of (Below.refl _ _)⟩
  case round =>
    obtain ⟨j, hj, rfl, he, x, rfl⟩ := hrel
    have HE := Lib.hid he
    clear he
    have xs := x.size
    have HBX : Hid (Below w.heap.size w x.val) := Lib.hid (HB0.out.trans (x.below.mono (by omega)))
    have HX0 := Lib.hid x.below
    have hbx0 : w.heap.size < x.val.heap.size := by omega
    have HSX := Lib.hid ((x.below.block _ (by omega)).trans HBL.out)
    clear HB0 HBL
    generalize x.val = X at *
    obtain ⟨b0, _, k1⟩ := one_z HSX.out
    by_cases hltj : j < sn
    · obtain ⟨b, off, ha, hb2, hc⟩ := HRW.out j hltj
      subst ha
      have q0 := hc 0 (by omega)
      have q1 := hc 1 (by omega)
      have q2 := hc 2 (by omega)
      have q3 := hc 3 (by omega)
      have q4 := hc 4 (by omega)
      have q5 := hc 5 (by omega)
      simp only [Tb.cells, Sl.v, List.getElem?_cons_zero, List.getElem?_cons_succ, Nat.add_zero] at q0 q1 q2 q3 q4 q5
      rw [← HBX.out.cell (p := ⟨b, _, none⟩) hb2] at q0 q1 q2 q3 q4 q5
      have hb3 : b < X.heap.size := by omega
      have hS : Hid (sn - j = (sn - (j + 1)) + 1) := Lib.hid (by omega)
      have hP := Lib.hid (HIS.out j)
      have C1 := Lib.hid (HFI.out (tb j).name)
      have C2 := Lib.hid (HTE.out j hltj)
      have hns := HNS.out j hltj
      have C3 : Hid (∀ tk W, Calls Tryz.prog 45 #[.string (tb j).name, .bool tk] W fun r w' => r = .returned (.int .i64 (nameE (tb j).name tk)) ∧ Cls W w') := Lib.hid fun tk W => nameError_calls _ tk W hns
      clear hc hns
      generalize at0 (idx (nameP tb (tb j).name) 0 sn) = a0 at C1 hP
      generalize decide (0 ≤ idx (nameP tb (tb j).name) 0 sn) = bd at C1
      have C4 := Lib.hid (C3.out (decide (a0 < (j : Nat))))
      clear C3
      generalize nameE (tb j).name (decide (a0 < (j : Nat))) = ne at C4 hP
      generalize tableE (tb j) (g j) = tv at C2 hP
      have HB1 : Hid (Below w.heap.size w (X.alloc (.cells #[.string (tb j).name, .slice (tb j).cs.a (tb j).cs.len (tb j).cs.cap, .slice (tb j).ps.a (tb j).ps.len (tb j).ps.cap, .slice (tb j).us.a (tb j).us.len (tb j).us.cap, .slice (tb j).fs.a (tb j).fs.len (tb j).fs.cap, .slice (tb j).ks.a (tb j).ks.len (tb j).ks.cap] 55))) := Lib.hid (HBX.out.trans (((Below.refl _ _).alloc (Nat.le_refl _) _).mono HBX.out.size))
      have HBN : Hid (Below W0.heap.size W0 (X.alloc (.cells #[.string (tb j).name, .slice (tb j).cs.a (tb j).cs.len (tb j).cs.cap, .slice (tb j).ps.a (tb j).ps.len (tb j).ps.cap, .slice (tb j).us.a (tb j).us.len (tb j).us.cap, .slice (tb j).fs.a (tb j).fs.len (tb j).fs.cap, .slice (tb j).ks.a (tb j).ks.len (tb j).ks.cap] 55))) := Lib.hid (HX0.out.trans (((Below.refl _ _).alloc (Nat.le_refl _) _).mono HX0.out.size))
      have ha1 : X.heap.size < (X.alloc (.cells #[.string (tb j).name, .slice (tb j).cs.a (tb j).cs.len (tb j).cs.cap, .slice (tb j).ps.a (tb j).ps.len (tb j).ps.cap, .slice (tb j).us.a (tb j).us.len (tb j).us.cap, .slice (tb j).fs.a (tb j).fs.len (tb j).fs.cap, .slice (tb j).ks.a (tb j).ks.len (tb j).ks.cap] 55)).heap.size := by simp
      by_cases hne : ne = 0
      · have d2 : (ne == 0) = true := by simp [hne]
        have d2' : (ne != 0) = false := by simp [hne]
        have hP2 := Lib.hid (hP.out.1 hne)
        clear hne hP
        by_cases htv : tv = 0
        · have d3 : (tv == 0) = true := by simp [htv]
          have d3' : (tv != 0) = false := by simp [htv]
          have hP3 : Hid (ve j = 0) := Lib.hid (hP2.out.trans htv)
          clear htv hP2
          go_wp2_with (first | (go_at_call 44; ((with_reducible refine (C1.out _ HB1.out).mono ?_); rintro r _ ⟨rfl, y, rfl⟩; obtain ⟨l1, l2, l3, l4, l5⟩ := y.lts (b := X.heap.size) ha1; have ys := y.size)) | (go_at_call 45; ((with_reducible refine (C4.out _).mono ?_); rintro r _ ⟨rfl, z, rfl⟩; obtain ⟨l6, l7, l8, l9, l10⟩ := z.lts (b := X.heap.size) (by omega); have zs := z.size)) | (go_at_call 46; ((with_reducible refine (C2.out _ (z.on (y.on HB1.out (by have := HB1.out.size; omega)) (by have := HB1.out.size; omega))).mono ?_); rintro r _ ⟨rfl, v, rfl⟩; obtain ⟨l11, l12, l13, l14, l15⟩ := v.lts (b := X.heap.size) (by omega); have vs := v.size)))
          go_roundw
          case rel => exact ⟨j + 1, by omega, by go_num, by rw [HE.out, hS.out, fstE_go hP3.out], Cls.of (v.on (z.on (y.on HBN.out (by omega)) (by omega)) (by omega))⟩
          case measure => simp [intOf]; omega
        · have d3 : (tv == 0) = false := by simp [htv]
          have d3' : (tv != 0) = true := by simp [htv]
          have HTV := Lib.hid htv
          clear htv
          go_wp2_with (first | (go_at_call 44; ((with_reducible refine (C1.out _ HB1.out).mono ?_); rintro r _ ⟨rfl, y, rfl⟩; obtain ⟨l1, l2, l3, l4, l5⟩ := y.lts (b := X.heap.size) ha1; have ys := y.size)) | (go_at_call 45; ((with_reducible refine (C4.out _).mono ?_); rintro r _ ⟨rfl, z, rfl⟩; obtain ⟨l6, l7, l8, l9, l10⟩ := z.lts (b := X.heap.size) (by omega); have zs := z.size)) | (go_at_call 46; ((with_reducible refine (C2.out _ (z.on (y.on HB1.out (by have := HB1.out.size; omega)) (by have := HB1.out.size; omega))).mono ?_); rintro r _ ⟨rfl, v, rfl⟩; obtain ⟨l11, l12, l13, l14, l15⟩ := v.lts (b := X.heap.size) (by omega); have vs := v.size)))
          go_ret
          have hfe : fstE ve 0 sn = tv := by rw [HE.out, hS.out, fstE_stop (by rw [hP2.out]; exact HTV.out), hP2.out]
          exact ⟨ret_int (by rw [HU.out.1 (by rw [hfe]; exact HTV.out), hfe]), Cls.of (v.on (z.on (y.on HB1.out (by omega)) (by omega)) (by omega))⟩
      · have d2 : (ne == 0) = false := by simp [hne]
        have d2' : (ne != 0) = true := by simp [hne]
        have hP2 := Lib.hid (hP.out.2 hne)
        have HNE := Lib.hid hne
        clear hne hP
        go_wp2_with (first | (go_at_call 44; ((with_reducible refine (C1.out _ HB1.out).mono ?_); rintro r _ ⟨rfl, y, rfl⟩; obtain ⟨l1, l2, l3, l4, l5⟩ := y.lts (b := X.heap.size) ha1; have ys := y.size)) | (go_at_call 45; ((with_reducible refine (C4.out _).mono ?_); rintro r _ ⟨rfl, z, rfl⟩; obtain ⟨l6, l7, l8, l9, l10⟩ := z.lts (b := X.heap.size) (by omega); have zs := z.size)))
        go_ret
        have hfe : fstE ve 0 sn = ne := by rw [HE.out, hS.out, fstE_stop (by rw [hP2.out]; exact HNE.out), hP2.out]
        exact ⟨ret_int (by rw [HU.out.1 (by rw [hfe]; exact HNE.out), hfe]), Cls.of (z.on (y.on HB1.out (by omega)) (by omega))⟩
    · have hz : Hid (sn - j = 0) := Lib.hid (by omega)
      have hfe : fstE ve 0 sn = 0 := by rw [HE.out, hz.out]; rfl
      have HU2 := Lib.hid (HU.out.2 hfe)
      have C1 := Lib.hid (HTG.out hfe)
      have C2 := Lib.hid (HOR.out hfe (by omega))
      clear HU HTG HOR hfe HE hz
      by_cases hte : te = 0
      · have d2 : (te == 0) = true := by simp [hte]
        have d2' : (te != 0) = false := by simp [hte]
        have HU3 := Lib.hid (HU2.out.2 hte)
        have HOG := Lib.hid (HOF.out (HAL.out hte))
        clear HU2 hte HOF HAL
        go_wp2_with (first | (go_at_call 47; ((with_reducible refine (C1.out _ HBX.out).mono ?_); rintro r _ ⟨rfl, y, rfl⟩; have ys := y.size; obtain ⟨l1, l2, l3, l4, l5⟩ := y.lts (b := w.heap.size) hbx0)) | (go_at_call 48; ((with_reducible refine (C2.out _ (y.on HBX.out (by omega))).mono ?_); rintro r w3 hq; obtain ⟨oa, on, oc, oe, rfl, ⟨z, rfl⟩, ho1, ho2⟩ := HOG.out _ _ _ hq; have HO1 := Lib.hid (And.intro ho1 ho2); clear hq ho1 ho2)))
        go_ret
        refine ⟨ret_int ?_, Cls.of (z.on (y.on HBX.out (by omega)) (by omega))⟩
        rcases Nat.lt_or_ge ol sn with hol | hol
        · rw [HU3.out.1 hol, HO1.out.1 hol]
        · have hol2 : ol = sn := Nat.le_antisymm HOL.out hol
          rw [HU3.out.2 hol2, HO1.out.2 hol2]
      · have d2 : (te == 0) = false := by simp [hte]
        have d2' : (te != 0) = true := by simp [hte]
        have HU3 := Lib.hid (HU2.out.1 hte)
        clear HU2 hte
        go_wp2_with (go_at_call 47; ((with_reducible refine (C1.out _ HBX.out).mono ?_); rintro r _ ⟨rfl, y, rfl⟩))
        go_ret
        exact ⟨ret_int (by rw [HU3.out]), Cls.of (y.on HBX.out (by omega))⟩
end Go.Proofs.YtdmhmlnfoocnjaaGreatDoor
set_option linter.unusedVariables false
namespace Go.Proofs.YtdmhmlnfoocnjaaGreatDoor
open Go Go.RowKit Go.Deep
def badV (ty : Int) (v : Vl) : Bool := !(vB v.k v.n v.s) || (!(v.k == 0) && !(v.k == ty))
end Go.Proofs.YtdmhmlnfoocnjaaGreatDoor
set_option linter.unusedVariables false
namespace Go.Proofs.YtdmhmlnfoocnjaaGreatDoor
open Go Go.RowKit Go.Deep
structure Vio where
  k : Int
  t : Int
  i : Int
  r : Int
  o : Int
def vioC (v : Vio) : List Value := [.int .i64 v.k, .int .i64 v.t, .int .i64 v.i, .int .i64 v.r, .int .i64 v.o]
def Vio.row (n : Int) (v : Vio) : Vio := ⟨v.k, v.t, v.i, n, v.o⟩
def Vio.tab (n : Int) (v : Vio) : Vio := ⟨v.k, n, v.i, v.r, v.o⟩
def flatO (l : List Vio) : List Value := l.flatMap vioC
theorem flatO_app (l m : List Vio) : flatO (l ++ m) = flatO l ++ flatO m := by unfold flatO; rw [List.flatMap_append]
theorem flatO_one (v : Vio) : flatO [v] = vioC v := by simp [flatO]
theorem flatO_snoc (l : List Vio) (v : Vio) : flatO (l ++ [v]) = flatO l ++ vioC v := by rw [flatO_app, flatO_one]
theorem flatO_len (l : List Vio) : (flatO l).length = l.length * 5 := by
  induction l with
  | nil => rfl
  | cons v l ih => 
    have : flatO (v :: l) = vioC v ++ flatO l := by simp [flatO]
    rw [this, List.length_append, ih, List.length_cons]
    have : (vioC v).length = 5 := rfl
    omega
theorem vioC_one (v : Vio) : ∀ u ∈ vioC v, u.oneCell' = true := by
  intro u h
  simp only [vioC, List.mem_cons, List.not_mem_nil, or_false] at h
  rcases h with rfl | rfl | rfl | rfl | rfl <;> rfl
theorem flatO_at (l : List Vio) (i j : Nat) (hi : i < l.length) (hj : j < 5) : (flatO l)[i * 5 + j]? = (vioC (l.getD i ⟨0, 0, 0, 0, 0⟩))[j]? := by
  induction l generalizing i with
  | nil => simp at hi
  | cons v l ih =>
    have e : flatO (v :: l) = vioC v ++ flatO l := by simp [flatO]
    have h5 : (vioC v).length = 5 := rfl
    rw [e]
    cases i with
    | zero => rw [Nat.zero_mul, Nat.zero_add, List.getElem?_append_left (by omega)]; rfl
    | succ i =>
      rw [List.getElem?_append_right (by omega), h5, show (i + 1) * 5 + j - 5 = i * 5 + j from by omega, ih i (by simpa using hi)]
      rfl
def catN {α : Type} (g : Nat → List α) : Nat → List α
  | 0 => []
  | n + 1 => catN g n ++ g n
theorem catN_next {α : Type} (g : Nat → List α) (n : Nat) : catN g (n + 1) = catN g n ++ g n := rfl
theorem catN_congr {α : Type} {g h : Nat → List α} : ∀ {n : Nat}, (∀ i, i < n → g i = h i) → catN g n = catN h n
  | 0, _ => rfl
  | n + 1, e => by rw [catN_next, catN_next, catN_congr fun i hi => e i (by omega), e n (by omega)]
theorem catN_len {α : Type} {g : Nat → List α} {b : Nat} : ∀ {n : Nat}, (∀ i, i < n → (g i).length ≤ b) → (catN g n).length ≤ n * b
  | 0, _ => by simp [catN]
  | n + 1, h => by
    have h1 := catN_len (n := n) fun i hi => h i (by omega)
    have h2 := h n (by omega)
    rw [catN_next, List.length_append, Nat.succ_mul]
    omega
theorem catN_any {α : Type} (p : α → Bool) (g : Nat → List α) : ∀ n, (catN g n).any p = decide (∃ i, i < n ∧ (g i).any p = true)
  | 0 => by simp [catN]
  | n + 1 => by
    rw [catN_next, List.any_append, catN_any p g n]
    cases h : (g n).any p
    · rw [Bool.or_false, decide_eq_decide]
      constructor
      · rintro ⟨i, hi, h1⟩
        exact ⟨i, by omega, h1⟩
      · rintro ⟨i, hi, h1⟩
        rcases Nat.lt_succ_iff_lt_or_eq.1 hi with h2 | rfl
        · exact ⟨i, h2, h1⟩
        · rw [h] at h1; cases h1
    · rw [Bool.or_true, eq_comm, decide_eq_true_eq]
      exact ⟨n, by omega, h⟩
/-! ### rows -/
def inP (t : Tb) (c : Nat) : Bool := decide (0 ≤ idx (sameP t.prim (c : Nat)) 0 t.ps.len)
def valK (t : Tb) (c : Nat) (v : Vl) : Int := if badV (t.col c).ty v = true then 2 else if ((v.k == 0) && (!(t.col c).null || inP t c)) = true then 3 else 0
theorem valK_is (t : Tb) (c : Nat) (v : Vl) : (badV (t.col c).ty v = true → valK t c v = 2) ∧ (badV (t.col c).ty v = false → (((v.k == 0) && (!(t.col c).null || inP t c)) = true → valK t c v = 3) ∧ (((v.k == 0) && (!(t.col c).null || inP t c)) = false → valK t c v = 0)) := by
  unfold valK
  refine ⟨fun h => if_pos h, fun h => ?_⟩
  rw [if_neg (by rw [h]; exact Bool.false_ne_true)]
  exact ⟨fun h => if_pos h, fun h => if_neg (by rw [h]; exact Bool.false_ne_true)⟩
def cellO (t : Tb) (f : Nat → Vl) (c : Nat) : List Vio := if valK t c (f c) = 0 then [] else [⟨valK t c (f c), 0, (c : Nat), 0, 0⟩]
def rowO (t : Tb) (m : Nat) (f : Nat → Vl) : List Vio := if m = t.cs.len then catN (cellO t f) m else [⟨1, 0, 0, 0, 0⟩]
theorem rowO_is (t : Tb) (m : Nat) (f : Nat → Vl) : (m = t.cs.len → rowO t m f = catN (cellO t f) m) ∧ (m ≠ t.cs.len → rowO t m f = [⟨1, 0, 0, 0, 0⟩]) := by
  unfold rowO
  exact ⟨fun h => if_pos h, fun h => if_neg h⟩
def rowG (t : Tb) (r : Nat → Sl) (f : Nat → Nat → Vl) (n : Nat) : List Vio := (rowO t (r n).len (f n)).map (Vio.row (n : Nat))
def rowsO (t : Tb) (r : Nat → Sl) (f : Nat → Nat → Vl) (len : Nat) : List Vio := catN (rowG t r f) len
def badO (v : Vio) : Bool := v.k == 1 || v.k == 2
def fitO (t : Tb) (r : Nat → Sl) (f : Nat → Nat → Vl) (len : Nat) : Bool := !(rowsO t r f len).any badO
theorem cellO_len (t : Tb) (f : Nat → Vl) (c : Nat) : (cellO t f c).length ≤ 1 := by unfold cellO; split <;> simp
theorem rowO_len (t : Tb) (m : Nat) (f : Nat → Vl) (h : t.cs.len ≤ 8) : (rowO t m f).length ≤ 8 := by
  unfold rowO
  split
  · have := catN_len (n := m) fun i _ => cellO_len t f i
    omega
  · simp
theorem rowsO_len (t : Tb) (r : Nat → Sl) (f : Nat → Nat → Vl) (len : Nat) (h : t.cs.len ≤ 8) : (rowsO t r f len).length ≤ len * 8 := catN_len fun i _ => by
  unfold rowG
  rw [List.length_map]
  exact rowO_len t _ _ h
theorem fitO_row {t : Tb} {r : Nat → Sl} {f : Nat → Nat → Vl} {len : Nat} (h : fitO t r f len = true) {n : Nat} (hn : n < len) : (r n).len = t.cs.len := by
  unfold fitO rowsO at h
  rw [catN_any] at h
  have h1 : ¬ ∃ i, i < len ∧ (rowG t r f i).any badO = true := by simpa using h
  rcases Nat.decEq (r n).len t.cs.len with h2 | h2
  · refine absurd ⟨n, hn, ?_⟩ h1
    unfold rowG
    rw [(rowO_is _ _ _).2 h2]
    rfl
  · exact h2
/-! ### keys -/
def keyW (g : Nat → Int) (c : Nat) (f : Nat → Vl) : List Vl := (List.range c).map fun i => f (g i).toNat
def nulL (l : List Vl) : Bool := l.any fun v => v.k == 0
noncomputable def sameL (a b : List Vl) : Bool := @decide (a = b) (Classical.propDecidable _)
theorem sameL_iff {a b : List Vl} : sameL a b = true ↔ a = b := by
  unfold sameL
  exact @decide_eq_true_iff _ (Classical.propDecidable _)
noncomputable def firstP (g : Nat → Int) (c : Nat) (f : Nat → Nat → Vl) (l : List Vl) (m : Nat) : Bool := sameL (keyW g c (f m)) l
noncomputable def repO (kd ix : Int) (g : Nat → Int) (c : Nat) (f : Nat → Nat → Vl) (n : Nat) : List Vio :=
  if ((kd == 4 || !nulL (keyW g c (f n))) && decide (0 ≤ idx (firstP g c f (keyW g c (f n))) 0 n)) = true then [⟨kd, 0, ix, (n : Nat), idx (firstP g c f (keyW g c (f n))) 0 n⟩] else []
theorem repO_is (kd ix : Int) (g : Nat → Int) (c : Nat) (f : Nat → Nat → Vl) (n : Nat) : (((kd == 4 || !nulL (keyW g c (f n))) && decide (0 ≤ idx (firstP g c f (keyW g c (f n))) 0 n)) = true → repO kd ix g c f n = [⟨kd, 0, ix, (n : Nat), idx (firstP g c f (keyW g c (f n))) 0 n⟩]) ∧
    (((kd == 4 || !nulL (keyW g c (f n))) && decide (0 ≤ idx (firstP g c f (keyW g c (f n))) 0 n)) = false → repO kd ix g c f n = []) := by
  unfold repO
  exact ⟨fun h => if_pos h, fun h => if_neg (by rw [h]; exact Bool.false_ne_true)⟩
noncomputable def repsO (kd ix : Int) (g : Nat → Int) (c : Nat) (f : Nat → Nat → Vl) (len : Nat) : List Vio := catN (repO kd ix g c f) len
theorem repO_len (kd ix : Int) (g : Nat → Int) (c : Nat) (f : Nat → Nat → Vl) (n : Nat) : (repO kd ix g c f n).length ≤ 1 := by unfold repO; split <;> simp
theorem repsO_len (kd ix : Int) (g : Nat → Int) (c : Nat) (f : Nat → Nat → Vl) (len : Nat) : (repsO kd ix g c f len).length ≤ len := by
  have := catN_len (n := len) fun i _ => repO_len kd ix g c f i
  unfold repsO
  omega
noncomputable def danO (ix : Int) (g : Nat → Int) (c : Nat) (f : Nat → Nat → Vl) (h : Nat → Int) (d : Nat) (f' : Nat → Nat → Vl) (len' : Nat) (n : Nat) : List Vio :=
  if (!nulL (keyW g c (f n)) && decide (idx (firstP h d f' (keyW g c (f n))) 0 len' < 0)) = true then [⟨6, 0, ix, (n : Nat), 0⟩] else []
theorem danO_is (ix : Int) (g : Nat → Int) (c : Nat) (f : Nat → Nat → Vl) (h : Nat → Int) (d : Nat) (f' : Nat → Nat → Vl) (len' : Nat) (n : Nat) : ((!nulL (keyW g c (f n)) && decide (idx (firstP h d f' (keyW g c (f n))) 0 len' < 0)) = true → danO ix g c f h d f' len' n = [⟨6, 0, ix, (n : Nat), 0⟩]) ∧
    ((!nulL (keyW g c (f n)) && decide (idx (firstP h d f' (keyW g c (f n))) 0 len' < 0)) = false → danO ix g c f h d f' len' n = []) := by
  unfold danO
  exact ⟨fun h => if_pos h, fun h => if_neg (by rw [h]; exact Bool.false_ne_true)⟩
noncomputable def dansO (ix : Int) (g : Nat → Int) (c : Nat) (f : Nat → Nat → Vl) (h : Nat → Int) (d : Nat) (f' : Nat → Nat → Vl) (len' len : Nat) : List Vio := catN (danO ix g c f h d f' len') len
theorem danO_len (ix : Int) (g : Nat → Int) (c : Nat) (f : Nat → Nat → Vl) (h : Nat → Int) (d : Nat) (f' : Nat → Nat → Vl) (len' n : Nat) : (danO ix g c f h d f' len' n).length ≤ 1 := by unfold danO; split <;> simp
theorem dansO_len (ix : Int) (g : Nat → Int) (c : Nat) (f : Nat → Nat → Vl) (h : Nat → Int) (d : Nat) (f' : Nat → Nat → Vl) (len' len : Nat) : (dansO ix g c f h d f' len' len).length ≤ len := by
  have := catN_len (n := len) fun i _ => danO_len ix g c f h d f' len' i
  unfold dansO
  omega
/-! ### checks -/
def rowVs (m : Nat) (f : Nat → Vl) : List Vl := (List.range m).map f
def chkO (e : Ex) (ix : Int) (r : Nat → Sl) (f : Nat → Nat → Vl) (n : Nat) : List Vio := if trV (evalE e (rowVs (r n).len (f n))) = 0 then [⟨7, 0, ix, (n : Nat), 0⟩] else []
theorem chkO_is (e : Ex) (ix : Int) (r : Nat → Sl) (f : Nat → Nat → Vl) (n : Nat) : (trV (evalE e (rowVs (r n).len (f n))) = 0 → chkO e ix r f n = [⟨7, 0, ix, (n : Nat), 0⟩]) ∧ (trV (evalE e (rowVs (r n).len (f n))) ≠ 0 → chkO e ix r f n = []) := by
  unfold chkO
  exact ⟨fun h => if_pos h, fun h => if_neg h⟩
def chkG (t : Tb) (r : Nat → Sl) (f : Nat → Nat → Vl) (len : Nat) (k : Nat) : List Vio := catN (chkO (t.checks.getD k Ex.z) (k : Nat) r f) len
def chksO (t : Tb) (r : Nat → Sl) (f : Nat → Nat → Vl) (len : Nat) : List Vio := catN (chkG t r f len) t.ks.len
theorem chkO_len (e : Ex) (ix : Int) (r : Nat → Sl) (f : Nat → Nat → Vl) (n : Nat) : (chkO e ix r f n).length ≤ 1 := by unfold chkO; split <;> simp
theorem chkG_len (t : Tb) (r : Nat → Sl) (f : Nat → Nat → Vl) (len k : Nat) : (chkG t r f len k).length ≤ len := by
  have := catN_len (n := len) fun i _ => chkO_len (t.checks.getD k Ex.z) (k : Nat) r f i
  unfold chkG
  omega
theorem chksO_len (t : Tb) (r : Nat → Sl) (f : Nat → Nat → Vl) (len : Nat) : (chksO t r f len).length ≤ t.ks.len * len := catN_len fun i _ => chkG_len t r f len i
/-! ### tables -/
noncomputable def unqG (t : Tb) (f : Nat → Nat → Vl) (len : Nat) (k : Nat) : List Vio := repsO 5 (k : Nat) (t.uqn k) (t.uq k).len f len
noncomputable def keysO (t : Tb) (f : Nat → Nat → Vl) (len : Nat) : List Vio := repsO 4 0 t.prim t.ps.len f len ++ catN (unqG t f len) t.us.len
theorem keysO_len (t : Tb) (f : Nat → Nat → Vl) (len : Nat) : (keysO t f len).length ≤ len + t.us.len * len := by
  unfold keysO
  rw [List.length_append]
  have h1 := repsO_len 4 0 t.prim t.ps.len f len
  have h2 := catN_len (n := t.us.len) (g := unqG t f len) fun i _ => repsO_len 5 (i : Nat) (t.uqn i) (t.uq i).len f len
  omega
section
variable (sl : Sl) (tb : Nat → Tb) (t : Nat → Sl) (r : Nat → Nat → Sl) (f : Nat → Nat → Nat → Vl)
def fitT (i : Nat) : Bool := fitO (tb i) (r i) (f i) (t i).len
noncomputable def forG (i k : Nat) : List Vio :=
  if fitT tb t r f (tgN sl tb i k) = true then dansO (k : Nat) ((tb i).fkn k) ((tb i).fk k).len (f i) (tb (tgN sl tb i k)).prim (tb (tgN sl tb i k)).ps.len (f (tgN sl tb i k)) (t (tgN sl tb i k)).len (t i).len else []
theorem forG_is (i k : Nat) : (fitT tb t r f (tgN sl tb i k) = true → forG sl tb t r f i k = dansO (k : Nat) ((tb i).fkn k) ((tb i).fk k).len (f i) (tb (tgN sl tb i k)).prim (tb (tgN sl tb i k)).ps.len (f (tgN sl tb i k)) (t (tgN sl tb i k)).len (t i).len) ∧ (fitT tb t r f (tgN sl tb i k) = false → forG sl tb t r f i k = []) := by
  unfold forG
  exact ⟨fun h => if_pos h, fun h => if_neg (by rw [h]; exact Bool.false_ne_true)⟩
noncomputable def forsO (i : Nat) : List Vio := catN (forG sl tb t r f i) (tb i).fs.len
theorem forG_len (i k : Nat) : (forG sl tb t r f i k).length ≤ (t i).len := by
  unfold forG
  split
  · exact dansO_len _ _ _ _ _ _ _ _ _
  · simp
theorem forsO_len (i : Nat) : (forsO sl tb t r f i).length ≤ (tb i).fs.len * (t i).len := catN_len fun k _ => forG_len sl tb t r f i k
noncomputable def tabO (i : Nat) : List Vio :=
  if fitT tb t r f i = true then rowsO (tb i) (r i) (f i) (t i).len ++ keysO (tb i) (f i) (t i).len ++ forsO sl tb t r f i ++ chksO (tb i) (r i) (f i) (t i).len else rowsO (tb i) (r i) (f i) (t i).len
theorem tabO_is (i : Nat) : (fitT tb t r f i = true → tabO sl tb t r f i = rowsO (tb i) (r i) (f i) (t i).len ++ keysO (tb i) (f i) (t i).len ++ forsO sl tb t r f i ++ chksO (tb i) (r i) (f i) (t i).len) ∧ (fitT tb t r f i = false → tabO sl tb t r f i = rowsO (tb i) (r i) (f i) (t i).len) := by
  unfold tabO
  exact ⟨fun h => if_pos h, fun h => if_neg (by rw [h]; exact Bool.false_ne_true)⟩
noncomputable def tabG (i : Nat) : List Vio := (tabO sl tb t r f i).map (Vio.tab (i : Nat))
noncomputable def allO : List Vio := catN (tabG sl tb t r f) sl.len
def errO (v : Int) (m : Nat) : Int := if v = 0 then (if m = sl.len then 0 else 9) else v
noncomputable def lstO (v : Int) (m : Nat) : List Vio := if errO sl v m = 0 then allO sl tb t r f else []
end
end Go.Proofs.YtdmhmlnfoocnjaaGreatDoor
