/-
  What the reference's Eval gives, operation by operation: part 4 of 4.
-/
import Derived.Test.YtpddkljedhghkaaDoorA17
set_option linter.unusedVariables false
namespace Go.Proofs.YtpddkljedhghkaaDoor
open Go Go.RowKit
set_option maxRecDepth 20000 in
set_option maxHeartbeats 4000000 in
theorem reval_26b (e : Ex) (ih : ∀ k ∈ e.kids, REvalOf k) (a : Option Addr) (len cap : Nat) (ok : Nat → Prop) (ra : Option Addr) (rlen rcap : Nat) (row : List Vl) (w : World) (hk : Kids w ok a len cap e.kids) (hsl : Slim e) (hr : RowIs w ra rlen rcap row) (hop : e.op = 26) (hl : len = 3) (hs : ∀ v ∈ e.kids.map (evalE · row), v.s.size ≤ maxLen) (v : Vl) (hv : v = if trV ((e.kids.map (evalE · row)).getD 0 Vl.z) = 1 then ((e.kids.map (evalE · row)).getD 1 Vl.z) else ((e.kids.map (evalE · row)).getD 2 Vl.z)) (hx : ¬ trV ((e.kids.map (evalE · row)).getD 0 Vl.z) = 1) :
    Calls Tryd.prog 14 #[.agg #[.int .i64 26, .int .i64 e.ty, .int .i64 e.num, .string e.text, .int .i64 e.col, .slice a len cap], .slice ra rlen rcap] w fun r w' => r = .returned (.agg #[.int .i64 (v).k, .int .i64 (v).n, .string (v).s]) ∧ Cls w w' := by
  obtain ⟨i0, hi, hz0, hz1, hz2⟩ := info_parts infoVl
  have hlen := hk.len_eq
  have hle := hk.le
  have hmax := hk.max
  have h12 := hsl.le
  unfold maxLen at hmax
  have HL := Lib.hid hlen
  have hl12 : len ≤ 12 := by omega
  have HV := Lib.hid hv
  have HX := Lib.hid hx
  clear hx
  have HS := Lib.hid hs
  have HR := Lib.hid hr
  have HK := Lib.hid hk
  have HI := Lib.hid ih
  have HM := Lib.hid hsl
  have CK : Hid (∀ W, Below w.heap.size w W → Calls Tryd.prog 41 #[.int .i64 26, .int .i64 (len : Nat)] W fun r w' => r = .returned (.bool true) ∧ Cls W w') := Lib.hid (fun W _ => by
    have := rkids_calls 26 len W (by omega) (by omega)
    rw [show takesO 26 len = true by rw [hl]; rfl] at this
    exact this)
  have H2 := Lib.hid hl
  clear hlen h12 hv hs hr hk ih hsl hop hl
  go_enter Tryd.func14, Tryd.ntmps14
  go_wp2_with ((go_at_call 41; ((with_reducible refine (CK.out _ ?_).mono ?_); (· (repeat first | with_reducible exact Below.refl _ _ | with_reducible assumption | with_reducible refine Below.setCell ?_ (by first | omega | (simp; done) | (simp; omega)) _ | with_reducible refine Below.alloc ?_ (by first | omega | (simp; done) | (simp; omega)) _ | with_reducible refine Below.drew ?_ | with_reducible refine Ext.on _ ?_ (by first | omega | (simp; done) | (simp; omega)))); rintro e1 _ ⟨rfl, y, rfl⟩; obtain ⟨l1, l2, l3, l4, l5⟩ := y.lts (b := w.heap.size) (by simp; omega); obtain ⟨m1, m2, m3, m4, m5⟩ := y.lts (b := w.heap.size + 1) (by simp); have ys := y.size; simp at ys)))
  go_loopw [5, 6] (fun u i wr => ∃ (j : Nat) (vs : List Vl), Cls y.val wr ∧ j ≤ len ∧ i = .int .i64 j ∧ wr.ownsRow y.val.heap.size 39 3 u vs.length (flatV vs) ∧ vs = (e.kids.take j).map (evalE · row)) (fun _ i _ => len - (intOf i).toNat)
  case atStart => exact ⟨0, [], Cls.of (Below.refl _ _), Nat.zero_le _, rfl, World.ownsRow_nil _ _ _ 3, rfl⟩
  case round =>
    obtain ⟨j, vs, ⟨x, rfl⟩, hj, rfl, hrow, hvs⟩ := hrel
    have hvl : vs.length = j := by rw [hvs, List.length_map, List.length_take, HL.out]; omega
    have HO := Lib.hid hrow
    have HVS := Lib.hid hvs
    have HVL := Lib.hid hvl
    clear hrow hvs hvl
    have xs := x.size
    obtain ⟨x1, x2, x3, x4, x5⟩ := x.lts l1
    obtain ⟨n1, n2, n3, n4, n5⟩ := x.lts m1
    by_cases hlt : j < len
    · obtain ⟨aj, lenj, capj, ⟨b, off, rfl, hb, _, q0, q1, q2, q3, q4, q5⟩, fj, kj⟩ := HK.out.at_ (i := j) hlt
      have hb1 : b < w.heap.size + 1 := by omega
      have hb2 : b < w.heap.size + 1 + 1 := by omega
      obtain ⟨g1, g2, g3, g4, g5⟩ := y.lts (b := b) (by simp; omega)
      obtain ⟨k1, k2, k3, k4, k5⟩ := x.lts g1
      have hmem := getD_mem (l := e.kids) (i := j) (by rw [HL.out]; exact hlt)
      have C1 : Hid (∀ W, Below w.heap.size w W → Calls Tryd.prog 14 #[.agg #[.int .i64 (e.kids.getD j Ex.z).op, .int .i64 (e.kids.getD j Ex.z).ty, .int .i64 (e.kids.getD j Ex.z).num, .string (e.kids.getD j Ex.z).text, .int .i64 (e.kids.getD j Ex.z).col, .slice aj lenj capj], .slice ra rlen rcap] W fun r w' => r = .returned (.agg #[.int .i64 (evalE (e.kids.getD j Ex.z) row).k, .int .i64 (evalE (e.kids.getD j Ex.z) row).n, .string (evalE (e.kids.getD j Ex.z) row).s]) ∧ Cls W w') := Lib.hid (fun W hW => HI.out _ hmem aj lenj capj ok ra rlen rcap row W (kj.later hW) fj (HM.out.kid _ hmem) (HR.out.later hW))
      have HT := Lib.hid (take_mapV (l := e.kids) (j := j) row (by rw [HL.out]; exact hlt))
      clear fj kj hmem
      generalize evalE (e.kids.getD j Ex.z) row = vj at C1 HT
      generalize e.kids.getD j Ex.z = ej at *
      go_wp2_with (first | (go_at_call 14; ((with_reducible refine (C1.out _ ?_).mono ?_); (· (repeat first | with_reducible exact Below.refl _ _ | with_reducible assumption | with_reducible refine Below.setCell ?_ (by first | omega | (simp; done) | (simp; omega)) _ | with_reducible refine Below.alloc ?_ (by first | omega | (simp; done) | (simp; omega)) _ | with_reducible refine Below.drew ?_ | with_reducible refine Ext.on _ ?_ (by first | omega | (simp; done) | (simp; omega)))); rintro e1 _ ⟨rfl, t, rfl⟩; have ts := t.size)) | (at_builtin; refine wpList_append_own_at _ rfl _ _ 32 rfl y.val.heap.size 39 i0 (.agg #[.int .i64 0, .int .i64 0, .string ⟨#[]⟩]) 3 32 Tryd.underlying32 hi hz0 hz1 hz2 rfl (by decide) _ vs.length (flatV vs) rfl (ownV_later HO.out (by repeat first | with_reducible exact Below.refl _ _ | with_reducible assumption | with_reducible refine Below.setCell ?_ (by first | omega | (simp; done) | (simp; omega)) _ | with_reducible refine Below.alloc ?_ (by first | omega | (simp; done) | (simp; omega)) _ | with_reducible refine Below.drew ?_ | with_reducible refine Ext.on _ ?_ (by first | omega | (simp; done) | (simp; omega)))) ⟨t.val.heap.size, 0, none⟩ 1 1 (Vl.cells vj) rfl rfl (cells_new _ _ _) (Vl.one _) (by have := HVL.out; unfold maxLen; omega) (by have := HVL.out; omega) (by have := t.size; simp at this ⊢; omega) ?_; intro v3 w3 hown3 hg3 _ hat3; have HO3 := Lib.hid hown3; have HG := Lib.hid hg3; have HA := Lib.hid hat3; clear hown3 hg3 hat3))
      go_roundw
      case rel =>
        refine ⟨j + 1, vs ++ [vj], Cls.of (Below.grown (w := t.val.alloc _) ?_ HG.out (by simp; omega) (fun k hk => by have := (HO.out.lt k hk).1; simp; omega)), by omega, by go_num, ?_, by rw [HVS.out, HT.out]⟩
        · repeat first | with_reducible exact Below.refl _ _ | with_reducible assumption | with_reducible refine Below.setCell ?_ (by first | omega | (simp; done) | (simp; omega)) _ | with_reducible refine Below.alloc ?_ (by first | omega | (simp; done) | (simp; omega)) _ | with_reducible refine Below.drew ?_ | with_reducible refine Ext.on _ ?_ (by first | omega | (simp; done) | (simp; omega))
        · rw [List.length_append, flatV_append]; simpa [flatV] using HO3.out
      case measure => simp [intOf]; omega
    · have hj2 : vs.length = 3 := by have := HVL.out; have := H2.out; omega
      have hvs2 : vs = e.kids.map (evalE · row) := by rw [HVS.out, List.take_of_length_le (by rw [HL.out]; omega)]
      obtain ⟨a3, cap3, hu, hrow⟩ := rowIs_of HO.out (by rw [hvs2]; exact HS.out)
      rw [← hvs2] at HV HX
      rw [hj2] at hu hrow
      obtain ⟨_, hlc, hcm, hsv, hcells⟩ := hrow
      obtain ⟨b, off, rfl, hb, hc⟩ := hcells.resolve_left (by omega)
      obtain ⟨p0, p1, p2⟩ := hc 0 (by omega)
      have hs0 := getD_size hsv 0
      simp only [Nat.zero_mul, Nat.add_zero] at p0 p1 p2
      obtain ⟨q0, q1, q2⟩ := hc 1 (by omega)
      have hs1 := getD_size hsv 1
      simp only [Nat.one_mul, Nat.add_assoc, Nat.reduceAdd] at q0 q1 q2
      obtain ⟨r0, r1, r2⟩ := hc 2 (by omega)
      have hs2 := getD_size hsv 2
      simp only [Nat.reduceMul, Nat.add_assoc, Nat.reduceAdd] at r0 r1 r2
      clear hc hcells hsv hvs2 HVS HO HVL
      generalize vs.getD 0 Vl.z = v0 at *
      generalize vs.getD 1 Vl.z = v1 at *
      generalize vs.getD 2 Vl.z = v2 at *
      subst hu
      unfold maxLen at hcm
      have b3 : (trV v0 == 1) = false := by simpa using HX.out
      have hv2 : v = v2 := by rw [HV.out]; rw [if_neg HX.out]
      subst hv2
      have CX : Hid (∀ W, Below w.heap.size w W → Calls Tryd.prog 50 #[.agg #[.int .i64 (v0).k, .int .i64 (v0).n, .string (v0).s]] W fun r w' => r = .returned (.int .i64 (trV v0)) ∧ Cls W w') := Lib.hid (fun W _ => by exact rTruth_calls _ _ _ W)
      have hlt2 : decide ((j : Int) < (len : Int)) = false := by simp; omega
      go_wp2_with (first | (go_at_call 50; ((with_reducible refine (CX.out _ ?_).mono ?_); (· (repeat first | with_reducible exact Below.refl _ _ | with_reducible assumption | with_reducible refine Below.setCell ?_ (by first | omega | (simp; done) | (simp; omega)) _ | with_reducible refine Below.alloc ?_ (by first | omega | (simp; done) | (simp; omega)) _ | with_reducible refine Below.drew ?_ | with_reducible refine Ext.on _ ?_ (by first | omega | (simp; done) | (simp; omega)))); rintro e1 _ ⟨rfl, t, rfl⟩; obtain ⟨t1, t2, t3, t4, t5⟩ := t.lts n1; obtain ⟨u1, u2, u3, u4, u5⟩ := t.lts hb)))
      have z0 : (y.val.cell? ⟨w.heap.size + 1, 0, none⟩).isSome = true := by rw [y.cell 0 (by simp)]; simp [go_sem]
      have z1 : (y.val.cell? ⟨w.heap.size + 1, 1, none⟩).isSome = true := by rw [y.cell 1 (by simp)]; simp [go_sem]
      have z2 : (y.val.cell? ⟨w.heap.size + 1, 2, none⟩).isSome = true := by rw [y.cell 2 (by simp)]; simp [go_sem]
      have c0 : (t.val.cell? ⟨w.heap.size + 1, 0, none⟩).isSome = true := by rw [t.cell 0 n1, x.cell 0 m1]; exact z0
      have c1 : (t.val.cell? ⟨w.heap.size + 1, 1, none⟩).isSome = true := by rw [t.cell 1 n1, x.cell 1 m1]; exact z1
      have c2 : (t.val.cell? ⟨w.heap.size + 1, 2, none⟩).isSome = true := by rw [t.cell 2 n1, x.cell 2 m1]; exact z2
      refine ret_ex rfl ?_
      simp [results, Tryd.results14, go_sem, c0, c1, c2]
      refine Cls.of ?_
      repeat first | with_reducible exact Below.refl _ _ | with_reducible assumption | with_reducible refine Below.setCell ?_ (by first | omega | (simp; done) | (simp; omega)) _ | with_reducible refine Below.alloc ?_ (by first | omega | (simp; done) | (simp; omega)) _ | with_reducible refine Below.drew ?_ | with_reducible refine Ext.on _ ?_ (by first | omega | (simp; done) | (simp; omega))
set_option maxRecDepth 20000 in
set_option maxHeartbeats 4000000 in
theorem reval_1 (e : Ex) (ih : ∀ k ∈ e.kids, REvalOf k) (a : Option Addr) (len cap : Nat) (ok : Nat → Prop) (ra : Option Addr) (rlen rcap : Nat) (row : List Vl) (w : World) (hk : Kids w ok a len cap e.kids) (hsl : Slim e) (hr : RowIs w ra rlen rcap row) (hop : e.op = 1) (hl : len = 0) (hs : ∀ v ∈ e.kids.map (evalE · row), v.s.size ≤ maxLen) (v : Vl) (hv : v = Vl.z) :
    Calls Tryd.prog 14 #[.agg #[.int .i64 1, .int .i64 e.ty, .int .i64 e.num, .string e.text, .int .i64 e.col, .slice a len cap], .slice ra rlen rcap] w fun r w' => r = .returned (.agg #[.int .i64 (v).k, .int .i64 (v).n, .string (v).s]) ∧ Cls w w' := by
  obtain ⟨i0, hi, hz0, hz1, hz2⟩ := info_parts infoVl
  have hlen := hk.len_eq
  have hle := hk.le
  have hmax := hk.max
  have h12 := hsl.le
  unfold maxLen at hmax
  have HL := Lib.hid hlen
  have hl12 : len ≤ 12 := by omega
  have HV := Lib.hid hv
  have HS := Lib.hid hs
  have HR := Lib.hid hr
  have HK := Lib.hid hk
  have HI := Lib.hid ih
  have HM := Lib.hid hsl
  have CK : Hid (∀ W, Below w.heap.size w W → Calls Tryd.prog 41 #[.int .i64 1, .int .i64 (len : Nat)] W fun r w' => r = .returned (.bool true) ∧ Cls W w') := Lib.hid (fun W _ => by
    have := rkids_calls 1 len W (by omega) (by omega)
    rw [show takesO 1 len = true by rw [hl]; rfl] at this
    exact this)
  have H2 := Lib.hid hl
  clear hlen h12 hv hs hr hk ih hsl hop hl
  go_enter Tryd.func14, Tryd.ntmps14
  go_wp2_with ((go_at_call 41; ((with_reducible refine (CK.out _ ?_).mono ?_); (· (repeat first | with_reducible exact Below.refl _ _ | with_reducible assumption | with_reducible refine Below.setCell ?_ (by first | omega | (simp; done) | (simp; omega)) _ | with_reducible refine Below.alloc ?_ (by first | omega | (simp; done) | (simp; omega)) _ | with_reducible refine Below.drew ?_ | with_reducible refine Ext.on _ ?_ (by first | omega | (simp; done) | (simp; omega)))); rintro e1 _ ⟨rfl, y, rfl⟩; obtain ⟨l1, l2, l3, l4, l5⟩ := y.lts (b := w.heap.size) (by simp; omega); obtain ⟨m1, m2, m3, m4, m5⟩ := y.lts (b := w.heap.size + 1) (by simp); have ys := y.size; simp at ys)))
  go_loopw [5, 6] (fun u i wr => ∃ (j : Nat) (vs : List Vl), Cls y.val wr ∧ j ≤ len ∧ i = .int .i64 j ∧ wr.ownsRow y.val.heap.size 39 3 u vs.length (flatV vs) ∧ vs = (e.kids.take j).map (evalE · row)) (fun _ i _ => len - (intOf i).toNat)
  case atStart => exact ⟨0, [], Cls.of (Below.refl _ _), Nat.zero_le _, rfl, World.ownsRow_nil _ _ _ 3, rfl⟩
  case round =>
    obtain ⟨j, vs, ⟨x, rfl⟩, hj, rfl, hrow, hvs⟩ := hrel
    have hvl : vs.length = j := by rw [hvs, List.length_map, List.length_take, HL.out]; omega
    have HO := Lib.hid hrow
    have HVS := Lib.hid hvs
    have HVL := Lib.hid hvl
    clear hrow hvs hvl
    have xs := x.size
    obtain ⟨x1, x2, x3, x4, x5⟩ := x.lts l1
    obtain ⟨n1, n2, n3, n4, n5⟩ := x.lts m1
    by_cases hlt : j < len
    · obtain ⟨aj, lenj, capj, ⟨b, off, rfl, hb, _, q0, q1, q2, q3, q4, q5⟩, fj, kj⟩ := HK.out.at_ (i := j) hlt
      have hb1 : b < w.heap.size + 1 := by omega
      have hb2 : b < w.heap.size + 1 + 1 := by omega
      obtain ⟨g1, g2, g3, g4, g5⟩ := y.lts (b := b) (by simp; omega)
      obtain ⟨k1, k2, k3, k4, k5⟩ := x.lts g1
      have hmem := getD_mem (l := e.kids) (i := j) (by rw [HL.out]; exact hlt)
      have C1 : Hid (∀ W, Below w.heap.size w W → Calls Tryd.prog 14 #[.agg #[.int .i64 (e.kids.getD j Ex.z).op, .int .i64 (e.kids.getD j Ex.z).ty, .int .i64 (e.kids.getD j Ex.z).num, .string (e.kids.getD j Ex.z).text, .int .i64 (e.kids.getD j Ex.z).col, .slice aj lenj capj], .slice ra rlen rcap] W fun r w' => r = .returned (.agg #[.int .i64 (evalE (e.kids.getD j Ex.z) row).k, .int .i64 (evalE (e.kids.getD j Ex.z) row).n, .string (evalE (e.kids.getD j Ex.z) row).s]) ∧ Cls W w') := Lib.hid (fun W hW => HI.out _ hmem aj lenj capj ok ra rlen rcap row W (kj.later hW) fj (HM.out.kid _ hmem) (HR.out.later hW))
      have HT := Lib.hid (take_mapV (l := e.kids) (j := j) row (by rw [HL.out]; exact hlt))
      clear fj kj hmem
      generalize evalE (e.kids.getD j Ex.z) row = vj at C1 HT
      generalize e.kids.getD j Ex.z = ej at *
      go_wp2_with (first | (go_at_call 14; ((with_reducible refine (C1.out _ ?_).mono ?_); (· (repeat first | with_reducible exact Below.refl _ _ | with_reducible assumption | with_reducible refine Below.setCell ?_ (by first | omega | (simp; done) | (simp; omega)) _ | with_reducible refine Below.alloc ?_ (by first | omega | (simp; done) | (simp; omega)) _ | with_reducible refine Below.drew ?_ | with_reducible refine Ext.on _ ?_ (by first | omega | (simp; done) | (simp; omega)))); rintro e1 _ ⟨rfl, t, rfl⟩; have ts := t.size)) | (at_builtin; refine wpList_append_own_at _ rfl _ _ 32 rfl y.val.heap.size 39 i0 (.agg #[.int .i64 0, .int .i64 0, .string ⟨#[]⟩]) 3 32 Tryd.underlying32 hi hz0 hz1 hz2 rfl (by decide) _ vs.length (flatV vs) rfl (ownV_later HO.out (by repeat first | with_reducible exact Below.refl _ _ | with_reducible assumption | with_reducible refine Below.setCell ?_ (by first | omega | (simp; done) | (simp; omega)) _ | with_reducible refine Below.alloc ?_ (by first | omega | (simp; done) | (simp; omega)) _ | with_reducible refine Below.drew ?_ | with_reducible refine Ext.on _ ?_ (by first | omega | (simp; done) | (simp; omega)))) ⟨t.val.heap.size, 0, none⟩ 1 1 (Vl.cells vj) rfl rfl (cells_new _ _ _) (Vl.one _) (by have := HVL.out; unfold maxLen; omega) (by have := HVL.out; omega) (by have := t.size; simp at this ⊢; omega) ?_; intro v3 w3 hown3 hg3 _ hat3; have HO3 := Lib.hid hown3; have HG := Lib.hid hg3; have HA := Lib.hid hat3; clear hown3 hg3 hat3))
      go_roundw
      case rel =>
        refine ⟨j + 1, vs ++ [vj], Cls.of (Below.grown (w := t.val.alloc _) ?_ HG.out (by simp; omega) (fun k hk => by have := (HO.out.lt k hk).1; simp; omega)), by omega, by go_num, ?_, by rw [HVS.out, HT.out]⟩
        · repeat first | with_reducible exact Below.refl _ _ | with_reducible assumption | with_reducible refine Below.setCell ?_ (by first | omega | (simp; done) | (simp; omega)) _ | with_reducible refine Below.alloc ?_ (by first | omega | (simp; done) | (simp; omega)) _ | with_reducible refine Below.drew ?_ | with_reducible refine Ext.on _ ?_ (by first | omega | (simp; done) | (simp; omega))
        · rw [List.length_append, flatV_append]; simpa [flatV] using HO3.out
      case measure => simp [intOf]; omega
    · have hj2 : vs.length = 0 := by have := HVL.out; have := H2.out; omega
      have hvs2 : vs = e.kids.map (evalE · row) := by rw [HVS.out, List.take_of_length_le (by rw [HL.out]; omega)]
      obtain ⟨a3, cap3, hu, hrow⟩ := rowIs_of HO.out (by rw [hvs2]; exact HS.out)
      try rw [← hvs2] at HV
      rw [hj2] at hu hrow
      obtain ⟨_, hlc, hcm, hsv, hcells⟩ := hrow
      skip
      
      clear hcells hsv hvs2 HVS HO HVL
      
      subst hu
      unfold maxLen at hcm
      have hv2 : v = Vl.z := HV.out
      subst hv2
      have hlt2 : decide ((j : Int) < (len : Int)) = false := by simp; omega
      go_wp2_with fail
      have z0 : (y.val.cell? ⟨w.heap.size + 1, 0, none⟩).isSome = true := by rw [y.cell 0 (by simp)]; simp [go_sem]
      have z1 : (y.val.cell? ⟨w.heap.size + 1, 1, none⟩).isSome = true := by rw [y.cell 1 (by simp)]; simp [go_sem]
      have z2 : (y.val.cell? ⟨w.heap.size + 1, 2, none⟩).isSome = true := by rw [y.cell 2 (by simp)]; simp [go_sem]
      have c0 : (x.val.cell? ⟨w.heap.size + 1, 0, none⟩).isSome = true := by rw [x.cell 0 m1]; exact z0
      have c1 : (x.val.cell? ⟨w.heap.size + 1, 1, none⟩).isSome = true := by rw [x.cell 1 m1]; exact z1
      have c2 : (x.val.cell? ⟨w.heap.size + 1, 2, none⟩).isSome = true := by rw [x.cell 2 m1]; exact z2
      refine ret_ex rfl ?_
      simp [results, Tryd.results14, go_sem, Vl.z, c0, c1, c2]
      refine Cls.of ?_
      repeat first | with_reducible exact Below.refl _ _ | with_reducible assumption | with_reducible refine Below.setCell ?_ (by first | omega | (simp; done) | (simp; omega)) _ | with_reducible refine Below.alloc ?_ (by first | omega | (simp; done) | (simp; omega)) _ | with_reducible refine Below.drew ?_ | with_reducible refine Ext.on _ ?_ (by first | omega | (simp; done) | (simp; omega))
set_option maxRecDepth 20000 in
set_option maxHeartbeats 4000000 in
theorem reval_2 (e : Ex) (ih : ∀ k ∈ e.kids, REvalOf k) (a : Option Addr) (len cap : Nat) (ok : Nat → Prop) (ra : Option Addr) (rlen rcap : Nat) (row : List Vl) (w : World) (hk : Kids w ok a len cap e.kids) (hsl : Slim e) (hr : RowIs w ra rlen rcap row) (hop : e.op = 2) (hl : len = 0) (hs : ∀ v ∈ e.kids.map (evalE · row), v.s.size ≤ maxLen) (v : Vl) (hv : v = (⟨1, e.num, ⟨#[]⟩⟩ : Vl)) :
    Calls Tryd.prog 14 #[.agg #[.int .i64 2, .int .i64 e.ty, .int .i64 e.num, .string e.text, .int .i64 e.col, .slice a len cap], .slice ra rlen rcap] w fun r w' => r = .returned (.agg #[.int .i64 (v).k, .int .i64 (v).n, .string (v).s]) ∧ Cls w w' := by
  obtain ⟨i0, hi, hz0, hz1, hz2⟩ := info_parts infoVl
  have hlen := hk.len_eq
  have hle := hk.le
  have hmax := hk.max
  have h12 := hsl.le
  unfold maxLen at hmax
  have HL := Lib.hid hlen
  have hl12 : len ≤ 12 := by omega
  have HV := Lib.hid hv
  have HS := Lib.hid hs
  have HR := Lib.hid hr
  have HK := Lib.hid hk
  have HI := Lib.hid ih
  have HM := Lib.hid hsl
  have CK : Hid (∀ W, Below w.heap.size w W → Calls Tryd.prog 41 #[.int .i64 2, .int .i64 (len : Nat)] W fun r w' => r = .returned (.bool true) ∧ Cls W w') := Lib.hid (fun W _ => by
    have := rkids_calls 2 len W (by omega) (by omega)
    rw [show takesO 2 len = true by rw [hl]; rfl] at this
    exact this)
  have H2 := Lib.hid hl
  clear hlen h12 hv hs hr hk ih hsl hop hl
  go_enter Tryd.func14, Tryd.ntmps14
  go_wp2_with ((go_at_call 41; ((with_reducible refine (CK.out _ ?_).mono ?_); (· (repeat first | with_reducible exact Below.refl _ _ | with_reducible assumption | with_reducible refine Below.setCell ?_ (by first | omega | (simp; done) | (simp; omega)) _ | with_reducible refine Below.alloc ?_ (by first | omega | (simp; done) | (simp; omega)) _ | with_reducible refine Below.drew ?_ | with_reducible refine Ext.on _ ?_ (by first | omega | (simp; done) | (simp; omega)))); rintro e1 _ ⟨rfl, y, rfl⟩; obtain ⟨l1, l2, l3, l4, l5⟩ := y.lts (b := w.heap.size) (by simp; omega); obtain ⟨m1, m2, m3, m4, m5⟩ := y.lts (b := w.heap.size + 1) (by simp); have ys := y.size; simp at ys)))
  go_loopw [5, 6] (fun u i wr => ∃ (j : Nat) (vs : List Vl), Cls y.val wr ∧ j ≤ len ∧ i = .int .i64 j ∧ wr.ownsRow y.val.heap.size 39 3 u vs.length (flatV vs) ∧ vs = (e.kids.take j).map (evalE · row)) (fun _ i _ => len - (intOf i).toNat)
  case atStart => exact ⟨0, [], Cls.of (Below.refl _ _), Nat.zero_le _, rfl, World.ownsRow_nil _ _ _ 3, rfl⟩
  case round =>
    obtain ⟨j, vs, ⟨x, rfl⟩, hj, rfl, hrow, hvs⟩ := hrel
    have hvl : vs.length = j := by rw [hvs, List.length_map, List.length_take, HL.out]; omega
    have HO := Lib.hid hrow
    have HVS := Lib.hid hvs
    have HVL := Lib.hid hvl
    clear hrow hvs hvl
    have xs := x.size
    obtain ⟨x1, x2, x3, x4, x5⟩ := x.lts l1
    obtain ⟨n1, n2, n3, n4, n5⟩ := x.lts m1
    by_cases hlt : j < len
    · obtain ⟨aj, lenj, capj, ⟨b, off, rfl, hb, _, q0, q1, q2, q3, q4, q5⟩, fj, kj⟩ := HK.out.at_ (i := j) hlt
      have hb1 : b < w.heap.size + 1 := by omega
      have hb2 : b < w.heap.size + 1 + 1 := by omega
      obtain ⟨g1, g2, g3, g4, g5⟩ := y.lts (b := b) (by simp; omega)
      obtain ⟨k1, k2, k3, k4, k5⟩ := x.lts g1
      have hmem := getD_mem (l := e.kids) (i := j) (by rw [HL.out]; exact hlt)
      have C1 : Hid (∀ W, Below w.heap.size w W → Calls Tryd.prog 14 #[.agg #[.int .i64 (e.kids.getD j Ex.z).op, .int .i64 (e.kids.getD j Ex.z).ty, .int .i64 (e.kids.getD j Ex.z).num, .string (e.kids.getD j Ex.z).text, .int .i64 (e.kids.getD j Ex.z).col, .slice aj lenj capj], .slice ra rlen rcap] W fun r w' => r = .returned (.agg #[.int .i64 (evalE (e.kids.getD j Ex.z) row).k, .int .i64 (evalE (e.kids.getD j Ex.z) row).n, .string (evalE (e.kids.getD j Ex.z) row).s]) ∧ Cls W w') := Lib.hid (fun W hW => HI.out _ hmem aj lenj capj ok ra rlen rcap row W (kj.later hW) fj (HM.out.kid _ hmem) (HR.out.later hW))
      have HT := Lib.hid (take_mapV (l := e.kids) (j := j) row (by rw [HL.out]; exact hlt))
      clear fj kj hmem
      generalize evalE (e.kids.getD j Ex.z) row = vj at C1 HT
      generalize e.kids.getD j Ex.z = ej at *
      go_wp2_with (first | (go_at_call 14; ((with_reducible refine (C1.out _ ?_).mono ?_); (· (repeat first | with_reducible exact Below.refl _ _ | with_reducible assumption | with_reducible refine Below.setCell ?_ (by first | omega | (simp; done) | (simp; omega)) _ | with_reducible refine Below.alloc ?_ (by first | omega | (simp; done) | (simp; omega)) _ | with_reducible refine Below.drew ?_ | with_reducible refine Ext.on _ ?_ (by first | omega | (simp; done) | (simp; omega)))); rintro e1 _ ⟨rfl, t, rfl⟩; have ts := t.size)) | (at_builtin; refine wpList_append_own_at _ rfl _ _ 32 rfl y.val.heap.size 39 i0 (.agg #[.int .i64 0, .int .i64 0, .string ⟨#[]⟩]) 3 32 Tryd.underlying32 hi hz0 hz1 hz2 rfl (by decide) _ vs.length (flatV vs) rfl (ownV_later HO.out (by repeat first | with_reducible exact Below.refl _ _ | with_reducible assumption | with_reducible refine Below.setCell ?_ (by first | omega | (simp; done) | (simp; omega)) _ | with_reducible refine Below.alloc ?_ (by first | omega | (simp; done) | (simp; omega)) _ | with_reducible refine Below.drew ?_ | with_reducible refine Ext.on _ ?_ (by first | omega | (simp; done) | (simp; omega)))) ⟨t.val.heap.size, 0, none⟩ 1 1 (Vl.cells vj) rfl rfl (cells_new _ _ _) (Vl.one _) (by have := HVL.out; unfold maxLen; omega) (by have := HVL.out; omega) (by have := t.size; simp at this ⊢; omega) ?_; intro v3 w3 hown3 hg3 _ hat3; have HO3 := Lib.hid hown3; have HG := Lib.hid hg3; have HA := Lib.hid hat3; clear hown3 hg3 hat3))
      go_roundw
      case rel =>
        refine ⟨j + 1, vs ++ [vj], Cls.of (Below.grown (w := t.val.alloc _) ?_ HG.out (by simp; omega) (fun k hk => by have := (HO.out.lt k hk).1; simp; omega)), by omega, by go_num, ?_, by rw [HVS.out, HT.out]⟩
        · repeat first | with_reducible exact Below.refl _ _ | with_reducible assumption | with_reducible refine Below.setCell ?_ (by first | omega | (simp; done) | (simp; omega)) _ | with_reducible refine Below.alloc ?_ (by first | omega | (simp; done) | (simp; omega)) _ | with_reducible refine Below.drew ?_ | with_reducible refine Ext.on _ ?_ (by first | omega | (simp; done) | (simp; omega))
        · rw [List.length_append, flatV_append]; simpa [flatV] using HO3.out
      case measure => simp [intOf]; omega
    · have hj2 : vs.length = 0 := by have := HVL.out; have := H2.out; omega
      have hvs2 : vs = e.kids.map (evalE · row) := by rw [HVS.out, List.take_of_length_le (by rw [HL.out]; omega)]
      obtain ⟨a3, cap3, hu, hrow⟩ := rowIs_of HO.out (by rw [hvs2]; exact HS.out)
      try rw [← hvs2] at HV
      rw [hj2] at hu hrow
      obtain ⟨_, hlc, hcm, hsv, hcells⟩ := hrow
      skip
      
      clear hcells hsv hvs2 HVS HO HVL
      
      subst hu
      unfold maxLen at hcm
      have hv2 : v = (⟨1, e.num, ⟨#[]⟩⟩ : Vl) := HV.out
      subst hv2
      have hlt2 : decide ((j : Int) < (len : Int)) = false := by simp; omega
      go_wp2_with fail
      have z0 : (y.val.cell? ⟨w.heap.size + 1, 0, none⟩).isSome = true := by rw [y.cell 0 (by simp)]; simp [go_sem]
      have z1 : (y.val.cell? ⟨w.heap.size + 1, 1, none⟩).isSome = true := by rw [y.cell 1 (by simp)]; simp [go_sem]
      have z2 : (y.val.cell? ⟨w.heap.size + 1, 2, none⟩).isSome = true := by rw [y.cell 2 (by simp)]; simp [go_sem]
      have c0 : (x.val.cell? ⟨w.heap.size + 1, 0, none⟩).isSome = true := by rw [x.cell 0 m1]; exact z0
      have c1 : (x.val.cell? ⟨w.heap.size + 1, 1, none⟩).isSome = true := by rw [x.cell 1 m1]; exact z1
      have c2 : (x.val.cell? ⟨w.heap.size + 1, 2, none⟩).isSome = true := by rw [x.cell 2 m1]; exact z2
      refine ret_ex rfl ?_
      simp [results, Tryd.results14, go_sem, c0, c1, c2]
      refine Cls.of ?_
      repeat first | with_reducible exact Below.refl _ _ | with_reducible assumption | with_reducible refine Below.setCell ?_ (by first | omega | (simp; done) | (simp; omega)) _ | with_reducible refine Below.alloc ?_ (by first | omega | (simp; done) | (simp; omega)) _ | with_reducible refine Below.drew ?_ | with_reducible refine Ext.on _ ?_ (by first | omega | (simp; done) | (simp; omega))
set_option maxRecDepth 20000 in
set_option maxHeartbeats 4000000 in
theorem reval_3 (e : Ex) (ih : ∀ k ∈ e.kids, REvalOf k) (a : Option Addr) (len cap : Nat) (ok : Nat → Prop) (ra : Option Addr) (rlen rcap : Nat) (row : List Vl) (w : World) (hk : Kids w ok a len cap e.kids) (hsl : Slim e) (hr : RowIs w ra rlen rcap row) (hop : e.op = 3) (hl : len = 0) (hs : ∀ v ∈ e.kids.map (evalE · row), v.s.size ≤ maxLen) (v : Vl) (hv : v = (⟨2, e.num, ⟨#[]⟩⟩ : Vl)) :
    Calls Tryd.prog 14 #[.agg #[.int .i64 3, .int .i64 e.ty, .int .i64 e.num, .string e.text, .int .i64 e.col, .slice a len cap], .slice ra rlen rcap] w fun r w' => r = .returned (.agg #[.int .i64 (v).k, .int .i64 (v).n, .string (v).s]) ∧ Cls w w' := by
  obtain ⟨i0, hi, hz0, hz1, hz2⟩ := info_parts infoVl
  have hlen := hk.len_eq
  have hle := hk.le
  have hmax := hk.max
  have h12 := hsl.le
  unfold maxLen at hmax
  have HL := Lib.hid hlen
  have hl12 : len ≤ 12 := by omega
  have HV := Lib.hid hv
  have HS := Lib.hid hs
  have HR := Lib.hid hr
  have HK := Lib.hid hk
  have HI := Lib.hid ih
  have HM := Lib.hid hsl
  have CK : Hid (∀ W, Below w.heap.size w W → Calls Tryd.prog 41 #[.int .i64 3, .int .i64 (len : Nat)] W fun r w' => r = .returned (.bool true) ∧ Cls W w') := Lib.hid (fun W _ => by
    have := rkids_calls 3 len W (by omega) (by omega)
    rw [show takesO 3 len = true by rw [hl]; rfl] at this
    exact this)
  have H2 := Lib.hid hl
  clear hlen h12 hv hs hr hk ih hsl hop hl
  go_enter Tryd.func14, Tryd.ntmps14
  go_wp2_with ((go_at_call 41; ((with_reducible refine (CK.out _ ?_).mono ?_); (· (repeat first | with_reducible exact Below.refl _ _ | with_reducible assumption | with_reducible refine Below.setCell ?_ (by first | omega | (simp; done) | (simp; omega)) _ | with_reducible refine Below.alloc ?_ (by first | omega | (simp; done) | (simp; omega)) _ | with_reducible refine Below.drew ?_ | with_reducible refine Ext.on _ ?_ (by first | omega | (simp; done) | (simp; omega)))); rintro e1 _ ⟨rfl, y, rfl⟩; obtain ⟨l1, l2, l3, l4, l5⟩ := y.lts (b := w.heap.size) (by simp; omega); obtain ⟨m1, m2, m3, m4, m5⟩ := y.lts (b := w.heap.size + 1) (by simp); have ys := y.size; simp at ys)))
  go_loopw [5, 6] (fun u i wr => ∃ (j : Nat) (vs : List Vl), Cls y.val wr ∧ j ≤ len ∧ i = .int .i64 j ∧ wr.ownsRow y.val.heap.size 39 3 u vs.length (flatV vs) ∧ vs = (e.kids.take j).map (evalE · row)) (fun _ i _ => len - (intOf i).toNat)
  case atStart => exact ⟨0, [], Cls.of (Below.refl _ _), Nat.zero_le _, rfl, World.ownsRow_nil _ _ _ 3, rfl⟩
  case round =>
    obtain ⟨j, vs, ⟨x, rfl⟩, hj, rfl, hrow, hvs⟩ := hrel
    have hvl : vs.length = j := by rw [hvs, List.length_map, List.length_take, HL.out]; omega
    have HO := Lib.hid hrow
    have HVS := Lib.hid hvs
    have HVL := Lib.hid hvl
    clear hrow hvs hvl
    have xs := x.size
    obtain ⟨x1, x2, x3, x4, x5⟩ := x.lts l1
    obtain ⟨n1, n2, n3, n4, n5⟩ := x.lts m1
    by_cases hlt : j < len
    · obtain ⟨aj, lenj, capj, ⟨b, off, rfl, hb, _, q0, q1, q2, q3, q4, q5⟩, fj, kj⟩ := HK.out.at_ (i := j) hlt
      have hb1 : b < w.heap.size + 1 := by omega
      have hb2 : b < w.heap.size + 1 + 1 := by omega
      obtain ⟨g1, g2, g3, g4, g5⟩ := y.lts (b := b) (by simp; omega)
      obtain ⟨k1, k2, k3, k4, k5⟩ := x.lts g1
      have hmem := getD_mem (l := e.kids) (i := j) (by rw [HL.out]; exact hlt)
      have C1 : Hid (∀ W, Below w.heap.size w W → Calls Tryd.prog 14 #[.agg #[.int .i64 (e.kids.getD j Ex.z).op, .int .i64 (e.kids.getD j Ex.z).ty, .int .i64 (e.kids.getD j Ex.z).num, .string (e.kids.getD j Ex.z).text, .int .i64 (e.kids.getD j Ex.z).col, .slice aj lenj capj], .slice ra rlen rcap] W fun r w' => r = .returned (.agg #[.int .i64 (evalE (e.kids.getD j Ex.z) row).k, .int .i64 (evalE (e.kids.getD j Ex.z) row).n, .string (evalE (e.kids.getD j Ex.z) row).s]) ∧ Cls W w') := Lib.hid (fun W hW => HI.out _ hmem aj lenj capj ok ra rlen rcap row W (kj.later hW) fj (HM.out.kid _ hmem) (HR.out.later hW))
      have HT := Lib.hid (take_mapV (l := e.kids) (j := j) row (by rw [HL.out]; exact hlt))
      clear fj kj hmem
      generalize evalE (e.kids.getD j Ex.z) row = vj at C1 HT
      generalize e.kids.getD j Ex.z = ej at *
      go_wp2_with (first | (go_at_call 14; ((with_reducible refine (C1.out _ ?_).mono ?_); (· (repeat first | with_reducible exact Below.refl _ _ | with_reducible assumption | with_reducible refine Below.setCell ?_ (by first | omega | (simp; done) | (simp; omega)) _ | with_reducible refine Below.alloc ?_ (by first | omega | (simp; done) | (simp; omega)) _ | with_reducible refine Below.drew ?_ | with_reducible refine Ext.on _ ?_ (by first | omega | (simp; done) | (simp; omega)))); rintro e1 _ ⟨rfl, t, rfl⟩; have ts := t.size)) | (at_builtin; refine wpList_append_own_at _ rfl _ _ 32 rfl y.val.heap.size 39 i0 (.agg #[.int .i64 0, .int .i64 0, .string ⟨#[]⟩]) 3 32 Tryd.underlying32 hi hz0 hz1 hz2 rfl (by decide) _ vs.length (flatV vs) rfl (ownV_later HO.out (by repeat first | with_reducible exact Below.refl _ _ | with_reducible assumption | with_reducible refine Below.setCell ?_ (by first | omega | (simp; done) | (simp; omega)) _ | with_reducible refine Below.alloc ?_ (by first | omega | (simp; done) | (simp; omega)) _ | with_reducible refine Below.drew ?_ | with_reducible refine Ext.on _ ?_ (by first | omega | (simp; done) | (simp; omega)))) ⟨t.val.heap.size, 0, none⟩ 1 1 (Vl.cells vj) rfl rfl (cells_new _ _ _) (Vl.one _) (by have := HVL.out; unfold maxLen; omega) (by have := HVL.out; omega) (by have := t.size; simp at this ⊢; omega) ?_; intro v3 w3 hown3 hg3 _ hat3; have HO3 := Lib.hid hown3; have HG := Lib.hid hg3; have HA := Lib.hid hat3; clear hown3 hg3 hat3))
      go_roundw
      case rel =>
        refine ⟨j + 1, vs ++ [vj], Cls.of (Below.grown (w := t.val.alloc _) ?_ HG.out (by simp; omega) (fun k hk => by have := (HO.out.lt k hk).1; simp; omega)), by omega, by go_num, ?_, by rw [HVS.out, HT.out]⟩
        · repeat first | with_reducible exact Below.refl _ _ | with_reducible assumption | with_reducible refine Below.setCell ?_ (by first | omega | (simp; done) | (simp; omega)) _ | with_reducible refine Below.alloc ?_ (by first | omega | (simp; done) | (simp; omega)) _ | with_reducible refine Below.drew ?_ | with_reducible refine Ext.on _ ?_ (by first | omega | (simp; done) | (simp; omega))
        · rw [List.length_append, flatV_append]; simpa [flatV] using HO3.out
      case measure => simp [intOf]; omega
    · have hj2 : vs.length = 0 := by have := HVL.out; have := H2.out; omega
      have hvs2 : vs = e.kids.map (evalE · row) := by rw [HVS.out, List.take_of_length_le (by rw [HL.out]; omega)]
      obtain ⟨a3, cap3, hu, hrow⟩ := rowIs_of HO.out (by rw [hvs2]; exact HS.out)
      try rw [← hvs2] at HV
      rw [hj2] at hu hrow
      obtain ⟨_, hlc, hcm, hsv, hcells⟩ := hrow
      skip
      
      clear hcells hsv hvs2 HVS HO HVL
      
      subst hu
      unfold maxLen at hcm
      have hv2 : v = (⟨2, e.num, ⟨#[]⟩⟩ : Vl) := HV.out
      subst hv2
      have hlt2 : decide ((j : Int) < (len : Int)) = false := by simp; omega
      go_wp2_with fail
      have z0 : (y.val.cell? ⟨w.heap.size + 1, 0, none⟩).isSome = true := by rw [y.cell 0 (by simp)]; simp [go_sem]
      have z1 : (y.val.cell? ⟨w.heap.size + 1, 1, none⟩).isSome = true := by rw [y.cell 1 (by simp)]; simp [go_sem]
      have z2 : (y.val.cell? ⟨w.heap.size + 1, 2, none⟩).isSome = true := by rw [y.cell 2 (by simp)]; simp [go_sem]
      have c0 : (x.val.cell? ⟨w.heap.size + 1, 0, none⟩).isSome = true := by rw [x.cell 0 m1]; exact z0
      have c1 : (x.val.cell? ⟨w.heap.size + 1, 1, none⟩).isSome = true := by rw [x.cell 1 m1]; exact z1
      have c2 : (x.val.cell? ⟨w.heap.size + 1, 2, none⟩).isSome = true := by rw [x.cell 2 m1]; exact z2
      refine ret_ex rfl ?_
      simp [results, Tryd.results14, go_sem, c0, c1, c2]
      refine Cls.of ?_
      repeat first | with_reducible exact Below.refl _ _ | with_reducible assumption | with_reducible refine Below.setCell ?_ (by first | omega | (simp; done) | (simp; omega)) _ | with_reducible refine Below.alloc ?_ (by first | omega | (simp; done) | (simp; omega)) _ | with_reducible refine Below.drew ?_ | with_reducible refine Ext.on _ ?_ (by first | omega | (simp; done) | (simp; omega))
set_option maxRecDepth 20000 in
set_option maxHeartbeats 4000000 in
theorem reval_4 (e : Ex) (ih : ∀ k ∈ e.kids, REvalOf k) (a : Option Addr) (len cap : Nat) (ok : Nat → Prop) (ra : Option Addr) (rlen rcap : Nat) (row : List Vl) (w : World) (hk : Kids w ok a len cap e.kids) (hsl : Slim e) (hr : RowIs w ra rlen rcap row) (hop : e.op = 4) (hl : len = 0) (hs : ∀ v ∈ e.kids.map (evalE · row), v.s.size ≤ maxLen) (v : Vl) (hv : v = (⟨3, 0, e.text⟩ : Vl)) :
    Calls Tryd.prog 14 #[.agg #[.int .i64 4, .int .i64 e.ty, .int .i64 e.num, .string e.text, .int .i64 e.col, .slice a len cap], .slice ra rlen rcap] w fun r w' => r = .returned (.agg #[.int .i64 (v).k, .int .i64 (v).n, .string (v).s]) ∧ Cls w w' := by
  obtain ⟨i0, hi, hz0, hz1, hz2⟩ := info_parts infoVl
  have hlen := hk.len_eq
  have hle := hk.le
  have hmax := hk.max
  have h12 := hsl.le
  unfold maxLen at hmax
  have HL := Lib.hid hlen
  have hl12 : len ≤ 12 := by omega
  have HV := Lib.hid hv
  have HS := Lib.hid hs
  have HR := Lib.hid hr
  have HK := Lib.hid hk
  have HI := Lib.hid ih
  have HM := Lib.hid hsl
  have CK : Hid (∀ W, Below w.heap.size w W → Calls Tryd.prog 41 #[.int .i64 4, .int .i64 (len : Nat)] W fun r w' => r = .returned (.bool true) ∧ Cls W w') := Lib.hid (fun W _ => by
    have := rkids_calls 4 len W (by omega) (by omega)
    rw [show takesO 4 len = true by rw [hl]; rfl] at this
    exact this)
  have H2 := Lib.hid hl
  clear hlen h12 hv hs hr hk ih hsl hop hl
  go_enter Tryd.func14, Tryd.ntmps14
  go_wp2_with ((go_at_call 41; ((with_reducible refine (CK.out _ ?_).mono ?_); (· (repeat first | with_reducible exact Below.refl _ _ | with_reducible assumption | with_reducible refine Below.setCell ?_ (by first | omega | (simp; done) | (simp; omega)) _ | with_reducible refine Below.alloc ?_ (by first | omega | (simp; done) | (simp; omega)) _ | with_reducible refine Below.drew ?_ | with_reducible refine Ext.on _ ?_ (by first | omega | (simp; done) | (simp; omega)))); rintro e1 _ ⟨rfl, y, rfl⟩; obtain ⟨l1, l2, l3, l4, l5⟩ := y.lts (b := w.heap.size) (by simp; omega); obtain ⟨m1, m2, m3, m4, m5⟩ := y.lts (b := w.heap.size + 1) (by simp); have ys := y.size; simp at ys)))
  go_loopw [5, 6] (fun u i wr => ∃ (j : Nat) (vs : List Vl), Cls y.val wr ∧ j ≤ len ∧ i = .int .i64 j ∧ wr.ownsRow y.val.heap.size 39 3 u vs.length (flatV vs) ∧ vs = (e.kids.take j).map (evalE · row)) (fun _ i _ => len - (intOf i).toNat)
  case atStart => exact ⟨0, [], Cls.of (Below.refl _ _), Nat.zero_le _, rfl, World.ownsRow_nil _ _ _ 3, rfl⟩
  case round =>
    obtain ⟨j, vs, ⟨x, rfl⟩, hj, rfl, hrow, hvs⟩ := hrel
    have hvl : vs.length = j := by rw [hvs, List.length_map, List.length_take, HL.out]; omega
    have HO := Lib.hid hrow
    have HVS := Lib.hid hvs
    have HVL := Lib.hid hvl
    clear hrow hvs hvl
    have xs := x.size
    obtain ⟨x1, x2, x3, x4, x5⟩ := x.lts l1
    obtain ⟨n1, n2, n3, n4, n5⟩ := x.lts m1
    by_cases hlt : j < len
    · obtain ⟨aj, lenj, capj, ⟨b, off, rfl, hb, _, q0, q1, q2, q3, q4, q5⟩, fj, kj⟩ := HK.out.at_ (i := j) hlt
      have hb1 : b < w.heap.size + 1 := by omega
      have hb2 : b < w.heap.size + 1 + 1 := by omega
      obtain ⟨g1, g2, g3, g4, g5⟩ := y.lts (b := b) (by simp; omega)
      obtain ⟨k1, k2, k3, k4, k5⟩ := x.lts g1
      have hmem := getD_mem (l := e.kids) (i := j) (by rw [HL.out]; exact hlt)
      have C1 : Hid (∀ W, Below w.heap.size w W → Calls Tryd.prog 14 #[.agg #[.int .i64 (e.kids.getD j Ex.z).op, .int .i64 (e.kids.getD j Ex.z).ty, .int .i64 (e.kids.getD j Ex.z).num, .string (e.kids.getD j Ex.z).text, .int .i64 (e.kids.getD j Ex.z).col, .slice aj lenj capj], .slice ra rlen rcap] W fun r w' => r = .returned (.agg #[.int .i64 (evalE (e.kids.getD j Ex.z) row).k, .int .i64 (evalE (e.kids.getD j Ex.z) row).n, .string (evalE (e.kids.getD j Ex.z) row).s]) ∧ Cls W w') := Lib.hid (fun W hW => HI.out _ hmem aj lenj capj ok ra rlen rcap row W (kj.later hW) fj (HM.out.kid _ hmem) (HR.out.later hW))
      have HT := Lib.hid (take_mapV (l := e.kids) (j := j) row (by rw [HL.out]; exact hlt))
      clear fj kj hmem
      generalize evalE (e.kids.getD j Ex.z) row = vj at C1 HT
      generalize e.kids.getD j Ex.z = ej at *
      go_wp2_with (first | (go_at_call 14; ((with_reducible refine (C1.out _ ?_).mono ?_); (· (repeat first | with_reducible exact Below.refl _ _ | with_reducible assumption | with_reducible refine Below.setCell ?_ (by first | omega | (simp; done) | (simp; omega)) _ | with_reducible refine Below.alloc ?_ (by first | omega | (simp; done) | (simp; omega)) _ | with_reducible refine Below.drew ?_ | with_reducible refine Ext.on _ ?_ (by first | omega | (simp; done) | (simp; omega)))); rintro e1 _ ⟨rfl, t, rfl⟩; have ts := t.size)) | (at_builtin; refine wpList_append_own_at _ rfl _ _ 32 rfl y.val.heap.size 39 i0 (.agg #[.int .i64 0, .int .i64 0, .string ⟨#[]⟩]) 3 32 Tryd.underlying32 hi hz0 hz1 hz2 rfl (by decide) _ vs.length (flatV vs) rfl (ownV_later HO.out (by repeat first | with_reducible exact Below.refl _ _ | with_reducible assumption | with_reducible refine Below.setCell ?_ (by first | omega | (simp; done) | (simp; omega)) _ | with_reducible refine Below.alloc ?_ (by first | omega | (simp; done) | (simp; omega)) _ | with_reducible refine Below.drew ?_ | with_reducible refine Ext.on _ ?_ (by first | omega | (simp; done) | (simp; omega)))) ⟨t.val.heap.size, 0, none⟩ 1 1 (Vl.cells vj) rfl rfl (cells_new _ _ _) (Vl.one _) (by have := HVL.out; unfold maxLen; omega) (by have := HVL.out; omega) (by have := t.size; simp at this ⊢; omega) ?_; intro v3 w3 hown3 hg3 _ hat3; have HO3 := Lib.hid hown3; have HG := Lib.hid hg3; have HA := Lib.hid hat3; clear hown3 hg3 hat3))
      go_roundw
      case rel =>
        refine ⟨j + 1, vs ++ [vj], Cls.of (Below.grown (w := t.val.alloc _) ?_ HG.out (by simp; omega) (fun k hk => by have := (HO.out.lt k hk).1; simp; omega)), by omega, by go_num, ?_, by rw [HVS.out, HT.out]⟩
        · repeat first | with_reducible exact Below.refl _ _ | with_reducible assumption | with_reducible refine Below.setCell ?_ (by first | omega | (simp; done) | (simp; omega)) _ | with_reducible refine Below.alloc ?_ (by first | omega | (simp; done) | (simp; omega)) _ | with_reducible refine Below.drew ?_ | with_reducible refine Ext.on _ ?_ (by first | omega | (simp; done) | (simp; omega))
        · rw [List.length_append, flatV_append]; simpa [flatV] using HO3.out
      case measure => simp [intOf]; omega
    · have hj2 : vs.length = 0 := by have := HVL.out; have := H2.out; omega
      have hvs2 : vs = e.kids.map (evalE · row) := by rw [HVS.out, List.take_of_length_le (by rw [HL.out]; omega)]
      obtain ⟨a3, cap3, hu, hrow⟩ := rowIs_of HO.out (by rw [hvs2]; exact HS.out)
      try rw [← hvs2] at HV
      rw [hj2] at hu hrow
      obtain ⟨_, hlc, hcm, hsv, hcells⟩ := hrow
      skip
      
      clear hcells hsv hvs2 HVS HO HVL
      
      subst hu
      unfold maxLen at hcm
      have hv2 : v = (⟨3, 0, e.text⟩ : Vl) := HV.out
      subst hv2
      have hlt2 : decide ((j : Int) < (len : Int)) = false := by simp; omega
      go_wp2_with fail
      have z0 : (y.val.cell? ⟨w.heap.size + 1, 0, none⟩).isSome = true := by rw [y.cell 0 (by simp)]; simp [go_sem]
      have z1 : (y.val.cell? ⟨w.heap.size + 1, 1, none⟩).isSome = true := by rw [y.cell 1 (by simp)]; simp [go_sem]
      have z2 : (y.val.cell? ⟨w.heap.size + 1, 2, none⟩).isSome = true := by rw [y.cell 2 (by simp)]; simp [go_sem]
      have c0 : (x.val.cell? ⟨w.heap.size + 1, 0, none⟩).isSome = true := by rw [x.cell 0 m1]; exact z0
      have c1 : (x.val.cell? ⟨w.heap.size + 1, 1, none⟩).isSome = true := by rw [x.cell 1 m1]; exact z1
      have c2 : (x.val.cell? ⟨w.heap.size + 1, 2, none⟩).isSome = true := by rw [x.cell 2 m1]; exact z2
      refine ret_ex rfl ?_
      simp [results, Tryd.results14, go_sem, c0, c1, c2]
      refine Cls.of ?_
      repeat first | with_reducible exact Below.refl _ _ | with_reducible assumption | with_reducible refine Below.setCell ?_ (by first | omega | (simp; done) | (simp; omega)) _ | with_reducible refine Below.alloc ?_ (by first | omega | (simp; done) | (simp; omega)) _ | with_reducible refine Below.drew ?_ | with_reducible refine Ext.on _ ?_ (by first | omega | (simp; done) | (simp; omega))
set_option maxRecDepth 20000 in
set_option maxHeartbeats 4000000 in
theorem reval_5a (e : Ex) (ih : ∀ k ∈ e.kids, REvalOf k) (a : Option Addr) (len cap : Nat) (ok : Nat → Prop) (ra : Option Addr) (rlen rcap : Nat) (row : List Vl) (w : World) (hk : Kids w ok a len cap e.kids) (hsl : Slim e) (hr : RowIs w ra rlen rcap row) (hop : e.op = 5) (hl : len = 0) (hs : ∀ v ∈ e.kids.map (evalE · row), v.s.size ≤ maxLen) (v : Vl) (hv : v = Vl.z) (hx : e.col < 0) :
    Calls Tryd.prog 14 #[.agg #[.int .i64 5, .int .i64 e.ty, .int .i64 e.num, .string e.text, .int .i64 e.col, .slice a len cap], .slice ra rlen rcap] w fun r w' => r = .returned (.agg #[.int .i64 (v).k, .int .i64 (v).n, .string (v).s]) ∧ Cls w w' := by
  obtain ⟨i0, hi, hz0, hz1, hz2⟩ := info_parts infoVl
  have hlen := hk.len_eq
  have hle := hk.le
  have hmax := hk.max
  have h12 := hsl.le
  unfold maxLen at hmax
  have HL := Lib.hid hlen
  have hl12 : len ≤ 12 := by omega
  have HV := Lib.hid hv
  have HX := Lib.hid hx
  clear hx
  have HS := Lib.hid hs
  have HR := Lib.hid hr
  have HK := Lib.hid hk
  have HI := Lib.hid ih
  have HM := Lib.hid hsl
  have CK : Hid (∀ W, Below w.heap.size w W → Calls Tryd.prog 41 #[.int .i64 5, .int .i64 (len : Nat)] W fun r w' => r = .returned (.bool true) ∧ Cls W w') := Lib.hid (fun W _ => by
    have := rkids_calls 5 len W (by omega) (by omega)
    rw [show takesO 5 len = true by rw [hl]; rfl] at this
    exact this)
  have H2 := Lib.hid hl
  clear hlen h12 hv hs hr hk ih hsl hop hl
  go_enter Tryd.func14, Tryd.ntmps14
  go_wp2_with ((go_at_call 41; ((with_reducible refine (CK.out _ ?_).mono ?_); (· (repeat first | with_reducible exact Below.refl _ _ | with_reducible assumption | with_reducible refine Below.setCell ?_ (by first | omega | (simp; done) | (simp; omega)) _ | with_reducible refine Below.alloc ?_ (by first | omega | (simp; done) | (simp; omega)) _ | with_reducible refine Below.drew ?_ | with_reducible refine Ext.on _ ?_ (by first | omega | (simp; done) | (simp; omega)))); rintro e1 _ ⟨rfl, y, rfl⟩; obtain ⟨l1, l2, l3, l4, l5⟩ := y.lts (b := w.heap.size) (by simp; omega); obtain ⟨m1, m2, m3, m4, m5⟩ := y.lts (b := w.heap.size + 1) (by simp); have ys := y.size; simp at ys)))
  go_loopw [5, 6] (fun u i wr => ∃ (j : Nat) (vs : List Vl), Cls y.val wr ∧ j ≤ len ∧ i = .int .i64 j ∧ wr.ownsRow y.val.heap.size 39 3 u vs.length (flatV vs) ∧ vs = (e.kids.take j).map (evalE · row)) (fun _ i _ => len - (intOf i).toNat)
  case atStart => exact ⟨0, [], Cls.of (Below.refl _ _), Nat.zero_le _, rfl, World.ownsRow_nil _ _ _ 3, rfl⟩
  case round =>
    obtain ⟨j, vs, ⟨x, rfl⟩, hj, rfl, hrow, hvs⟩ := hrel
    have hvl : vs.length = j := by rw [hvs, List.length_map, List.length_take, HL.out]; omega
    have HO := Lib.hid hrow
    have HVS := Lib.hid hvs
    have HVL := Lib.hid hvl
    clear hrow hvs hvl
    have xs := x.size
    obtain ⟨x1, x2, x3, x4, x5⟩ := x.lts l1
    obtain ⟨n1, n2, n3, n4, n5⟩ := x.lts m1
    by_cases hlt : j < len
    · obtain ⟨aj, lenj, capj, ⟨b, off, rfl, hb, _, q0, q1, q2, q3, q4, q5⟩, fj, kj⟩ := HK.out.at_ (i := j) hlt
      have hb1 : b < w.heap.size + 1 := by omega
      have hb2 : b < w.heap.size + 1 + 1 := by omega
      obtain ⟨g1, g2, g3, g4, g5⟩ := y.lts (b := b) (by simp; omega)
      obtain ⟨k1, k2, k3, k4, k5⟩ := x.lts g1
      have hmem := getD_mem (l := e.kids) (i := j) (by rw [HL.out]; exact hlt)
      have C1 : Hid (∀ W, Below w.heap.size w W → Calls Tryd.prog 14 #[.agg #[.int .i64 (e.kids.getD j Ex.z).op, .int .i64 (e.kids.getD j Ex.z).ty, .int .i64 (e.kids.getD j Ex.z).num, .string (e.kids.getD j Ex.z).text, .int .i64 (e.kids.getD j Ex.z).col, .slice aj lenj capj], .slice ra rlen rcap] W fun r w' => r = .returned (.agg #[.int .i64 (evalE (e.kids.getD j Ex.z) row).k, .int .i64 (evalE (e.kids.getD j Ex.z) row).n, .string (evalE (e.kids.getD j Ex.z) row).s]) ∧ Cls W w') := Lib.hid (fun W hW => HI.out _ hmem aj lenj capj ok ra rlen rcap row W (kj.later hW) fj (HM.out.kid _ hmem) (HR.out.later hW))
      have HT := Lib.hid (take_mapV (l := e.kids) (j := j) row (by rw [HL.out]; exact hlt))
      clear fj kj hmem
      generalize evalE (e.kids.getD j Ex.z) row = vj at C1 HT
      generalize e.kids.getD j Ex.z = ej at *
      go_wp2_with (first | (go_at_call 14; ((with_reducible refine (C1.out _ ?_).mono ?_); (· (repeat first | with_reducible exact Below.refl _ _ | with_reducible assumption | with_reducible refine Below.setCell ?_ (by first | omega | (simp; done) | (simp; omega)) _ | with_reducible refine Below.alloc ?_ (by first | omega | (simp; done) | (simp; omega)) _ | with_reducible refine Below.drew ?_ | with_reducible refine Ext.on _ ?_ (by first | omega | (simp; done) | (simp; omega)))); rintro e1 _ ⟨rfl, t, rfl⟩; have ts := t.size)) | (at_builtin; refine wpList_append_own_at _ rfl _ _ 32 rfl y.val.heap.size 39 i0 (.agg #[.int .i64 0, .int .i64 0, .string ⟨#[]⟩]) 3 32 Tryd.underlying32 hi hz0 hz1 hz2 rfl (by decide) _ vs.length (flatV vs) rfl (ownV_later HO.out (by repeat first | with_reducible exact Below.refl _ _ | with_reducible assumption | with_reducible refine Below.setCell ?_ (by first | omega | (simp; done) | (simp; omega)) _ | with_reducible refine Below.alloc ?_ (by first | omega | (simp; done) | (simp; omega)) _ | with_reducible refine Below.drew ?_ | with_reducible refine Ext.on _ ?_ (by first | omega | (simp; done) | (simp; omega)))) ⟨t.val.heap.size, 0, none⟩ 1 1 (Vl.cells vj) rfl rfl (cells_new _ _ _) (Vl.one _) (by have := HVL.out; unfold maxLen; omega) (by have := HVL.out; omega) (by have := t.size; simp at this ⊢; omega) ?_; intro v3 w3 hown3 hg3 _ hat3; have HO3 := Lib.hid hown3; have HG := Lib.hid hg3; have HA := Lib.hid hat3; clear hown3 hg3 hat3))
      go_roundw
      case rel =>
        refine ⟨j + 1, vs ++ [vj], Cls.of (Below.grown (w := t.val.alloc _) ?_ HG.out (by simp; omega) (fun k hk => by have := (HO.out.lt k hk).1; simp; omega)), by omega, by go_num, ?_, by rw [HVS.out, HT.out]⟩
        · repeat first | with_reducible exact Below.refl _ _ | with_reducible assumption | with_reducible refine Below.setCell ?_ (by first | omega | (simp; done) | (simp; omega)) _ | with_reducible refine Below.alloc ?_ (by first | omega | (simp; done) | (simp; omega)) _ | with_reducible refine Below.drew ?_ | with_reducible refine Ext.on _ ?_ (by first | omega | (simp; done) | (simp; omega))
        · rw [List.length_append, flatV_append]; simpa [flatV] using HO3.out
      case measure => simp [intOf]; omega
    · have hj2 : vs.length = 0 := by have := HVL.out; have := H2.out; omega
      have hvs2 : vs = e.kids.map (evalE · row) := by rw [HVS.out, List.take_of_length_le (by rw [HL.out]; omega)]
      obtain ⟨a3, cap3, hu, hrow⟩ := rowIs_of HO.out (by rw [hvs2]; exact HS.out)
      try rw [← hvs2] at HV
      rw [hj2] at hu hrow
      obtain ⟨_, hlc, hcm, hsv, hcells⟩ := hrow
      skip
      
      clear hcells hsv hvs2 HVS HO HVL
      
      subst hu
      unfold maxLen at hcm
      have hv2 : v = Vl.z := HV.out
      subst hv2
      have b3 : decide (e.col < 0) = true := by simpa using HX.out
      have hlt2 : decide ((j : Int) < (len : Int)) = false := by simp; omega
      go_wp2_with fail
      have z0 : (y.val.cell? ⟨w.heap.size + 1, 0, none⟩).isSome = true := by rw [y.cell 0 (by simp)]; simp [go_sem]
      have z1 : (y.val.cell? ⟨w.heap.size + 1, 1, none⟩).isSome = true := by rw [y.cell 1 (by simp)]; simp [go_sem]
      have z2 : (y.val.cell? ⟨w.heap.size + 1, 2, none⟩).isSome = true := by rw [y.cell 2 (by simp)]; simp [go_sem]
      have c0 : (x.val.cell? ⟨w.heap.size + 1, 0, none⟩).isSome = true := by rw [x.cell 0 m1]; exact z0
      have c1 : (x.val.cell? ⟨w.heap.size + 1, 1, none⟩).isSome = true := by rw [x.cell 1 m1]; exact z1
      have c2 : (x.val.cell? ⟨w.heap.size + 1, 2, none⟩).isSome = true := by rw [x.cell 2 m1]; exact z2
      refine ret_ex rfl ?_
      simp [results, Tryd.results14, go_sem, Vl.z, c0, c1, c2]
      refine Cls.of ?_
      repeat first | with_reducible exact Below.refl _ _ | with_reducible assumption | with_reducible refine Below.setCell ?_ (by first | omega | (simp; done) | (simp; omega)) _ | with_reducible refine Below.alloc ?_ (by first | omega | (simp; done) | (simp; omega)) _ | with_reducible refine Below.drew ?_ | with_reducible refine Ext.on _ ?_ (by first | omega | (simp; done) | (simp; omega))
set_option maxRecDepth 20000 in
set_option maxHeartbeats 4000000 in
theorem reval_5b (e : Ex) (ih : ∀ k ∈ e.kids, REvalOf k) (a : Option Addr) (len cap : Nat) (ok : Nat → Prop) (ra : Option Addr) (rlen rcap : Nat) (row : List Vl) (w : World) (hk : Kids w ok a len cap e.kids) (hsl : Slim e) (hr : RowIs w ra rlen rcap row) (hop : e.op = 5) (hl : len = 0) (hs : ∀ v ∈ e.kids.map (evalE · row), v.s.size ≤ maxLen) (v : Vl) (hv : v = Vl.z) (hx : ¬ e.col < 0 ∧ (rlen : Int) ≤ e.col) :
    Calls Tryd.prog 14 #[.agg #[.int .i64 5, .int .i64 e.ty, .int .i64 e.num, .string e.text, .int .i64 e.col, .slice a len cap], .slice ra rlen rcap] w fun r w' => r = .returned (.agg #[.int .i64 (v).k, .int .i64 (v).n, .string (v).s]) ∧ Cls w w' := by
  obtain ⟨i0, hi, hz0, hz1, hz2⟩ := info_parts infoVl
  have hlen := hk.len_eq
  have hle := hk.le
  have hmax := hk.max
  have h12 := hsl.le
  unfold maxLen at hmax
  have HL := Lib.hid hlen
  have hl12 : len ≤ 12 := by omega
  have HV := Lib.hid hv
  have HX := Lib.hid hx
  clear hx
  have HS := Lib.hid hs
  have HR := Lib.hid hr
  have HK := Lib.hid hk
  have HI := Lib.hid ih
  have HM := Lib.hid hsl
  have CK : Hid (∀ W, Below w.heap.size w W → Calls Tryd.prog 41 #[.int .i64 5, .int .i64 (len : Nat)] W fun r w' => r = .returned (.bool true) ∧ Cls W w') := Lib.hid (fun W _ => by
    have := rkids_calls 5 len W (by omega) (by omega)
    rw [show takesO 5 len = true by rw [hl]; rfl] at this
    exact this)
  have H2 := Lib.hid hl
  clear hlen h12 hv hs hr hk ih hsl hop hl
  go_enter Tryd.func14, Tryd.ntmps14
  go_wp2_with ((go_at_call 41; ((with_reducible refine (CK.out _ ?_).mono ?_); (· (repeat first | with_reducible exact Below.refl _ _ | with_reducible assumption | with_reducible refine Below.setCell ?_ (by first | omega | (simp; done) | (simp; omega)) _ | with_reducible refine Below.alloc ?_ (by first | omega | (simp; done) | (simp; omega)) _ | with_reducible refine Below.drew ?_ | with_reducible refine Ext.on _ ?_ (by first | omega | (simp; done) | (simp; omega)))); rintro e1 _ ⟨rfl, y, rfl⟩; obtain ⟨l1, l2, l3, l4, l5⟩ := y.lts (b := w.heap.size) (by simp; omega); obtain ⟨m1, m2, m3, m4, m5⟩ := y.lts (b := w.heap.size + 1) (by simp); have ys := y.size; simp at ys)))
  go_loopw [5, 6] (fun u i wr => ∃ (j : Nat) (vs : List Vl), Cls y.val wr ∧ j ≤ len ∧ i = .int .i64 j ∧ wr.ownsRow y.val.heap.size 39 3 u vs.length (flatV vs) ∧ vs = (e.kids.take j).map (evalE · row)) (fun _ i _ => len - (intOf i).toNat)
  case atStart => exact ⟨0, [], Cls.of (Below.refl _ _), Nat.zero_le _, rfl, World.ownsRow_nil _ _ _ 3, rfl⟩
  case round =>
    obtain ⟨j, vs, ⟨x, rfl⟩, hj, rfl, hrow, hvs⟩ := hrel
    have hvl : vs.length = j := by rw [hvs, List.length_map, List.length_take, HL.out]; omega
    have HO := Lib.hid hrow
    have HVS := Lib.hid hvs
    have HVL := Lib.hid hvl
    clear hrow hvs hvl
    have xs := x.size
    obtain ⟨x1, x2, x3, x4, x5⟩ := x.lts l1
    obtain ⟨n1, n2, n3, n4, n5⟩ := x.lts m1
    by_cases hlt : j < len
    · obtain ⟨aj, lenj, capj, ⟨b, off, rfl, hb, _, q0, q1, q2, q3, q4, q5⟩, fj, kj⟩ := HK.out.at_ (i := j) hlt
      have hb1 : b < w.heap.size + 1 := by omega
      have hb2 : b < w.heap.size + 1 + 1 := by omega
      obtain ⟨g1, g2, g3, g4, g5⟩ := y.lts (b := b) (by simp; omega)
      obtain ⟨k1, k2, k3, k4, k5⟩ := x.lts g1
      have hmem := getD_mem (l := e.kids) (i := j) (by rw [HL.out]; exact hlt)
      have C1 : Hid (∀ W, Below w.heap.size w W → Calls Tryd.prog 14 #[.agg #[.int .i64 (e.kids.getD j Ex.z).op, .int .i64 (e.kids.getD j Ex.z).ty, .int .i64 (e.kids.getD j Ex.z).num, .string (e.kids.getD j Ex.z).text, .int .i64 (e.kids.getD j Ex.z).col, .slice aj lenj capj], .slice ra rlen rcap] W fun r w' => r = .returned (.agg #[.int .i64 (evalE (e.kids.getD j Ex.z) row).k, .int .i64 (evalE (e.kids.getD j Ex.z) row).n, .string (evalE (e.kids.getD j Ex.z) row).s]) ∧ Cls W w') := Lib.hid (fun W hW => HI.out _ hmem aj lenj capj ok ra rlen rcap row W (kj.later hW) fj (HM.out.kid _ hmem) (HR.out.later hW))
      have HT := Lib.hid (take_mapV (l := e.kids) (j := j) row (by rw [HL.out]; exact hlt))
      clear fj kj hmem
      generalize evalE (e.kids.getD j Ex.z) row = vj at C1 HT
      generalize e.kids.getD j Ex.z = ej at *
      go_wp2_with (first | (go_at_call 14; ((with_reducible refine (C1.out _ ?_).mono ?_); (· (repeat first | with_reducible exact Below.refl _ _ | with_reducible assumption | with_reducible refine Below.setCell ?_ (by first | omega | (simp; done) | (simp; omega)) _ | with_reducible refine Below.alloc ?_ (by first | omega | (simp; done) | (simp; omega)) _ | with_reducible refine Below.drew ?_ | with_reducible refine Ext.on _ ?_ (by first | omega | (simp; done) | (simp; omega)))); rintro e1 _ ⟨rfl, t, rfl⟩; have ts := t.size)) | (at_builtin; refine wpList_append_own_at _ rfl _ _ 32 rfl y.val.heap.size 39 i0 (.agg #[.int .i64 0, .int .i64 0, .string ⟨#[]⟩]) 3 32 Tryd.underlying32 hi hz0 hz1 hz2 rfl (by decide) _ vs.length (flatV vs) rfl (ownV_later HO.out (by repeat first | with_reducible exact Below.refl _ _ | with_reducible assumption | with_reducible refine Below.setCell ?_ (by first | omega | (simp; done) | (simp; omega)) _ | with_reducible refine Below.alloc ?_ (by first | omega | (simp; done) | (simp; omega)) _ | with_reducible refine Below.drew ?_ | with_reducible refine Ext.on _ ?_ (by first | omega | (simp; done) | (simp; omega)))) ⟨t.val.heap.size, 0, none⟩ 1 1 (Vl.cells vj) rfl rfl (cells_new _ _ _) (Vl.one _) (by have := HVL.out; unfold maxLen; omega) (by have := HVL.out; omega) (by have := t.size; simp at this ⊢; omega) ?_; intro v3 w3 hown3 hg3 _ hat3; have HO3 := Lib.hid hown3; have HG := Lib.hid hg3; have HA := Lib.hid hat3; clear hown3 hg3 hat3))
      go_roundw
      case rel =>
        refine ⟨j + 1, vs ++ [vj], Cls.of (Below.grown (w := t.val.alloc _) ?_ HG.out (by simp; omega) (fun k hk => by have := (HO.out.lt k hk).1; simp; omega)), by omega, by go_num, ?_, by rw [HVS.out, HT.out]⟩
        · repeat first | with_reducible exact Below.refl _ _ | with_reducible assumption | with_reducible refine Below.setCell ?_ (by first | omega | (simp; done) | (simp; omega)) _ | with_reducible refine Below.alloc ?_ (by first | omega | (simp; done) | (simp; omega)) _ | with_reducible refine Below.drew ?_ | with_reducible refine Ext.on _ ?_ (by first | omega | (simp; done) | (simp; omega))
        · rw [List.length_append, flatV_append]; simpa [flatV] using HO3.out
      case measure => simp [intOf]; omega
    · have hj2 : vs.length = 0 := by have := HVL.out; have := H2.out; omega
      have hvs2 : vs = e.kids.map (evalE · row) := by rw [HVS.out, List.take_of_length_le (by rw [HL.out]; omega)]
      obtain ⟨a3, cap3, hu, hrow⟩ := rowIs_of HO.out (by rw [hvs2]; exact HS.out)
      try rw [← hvs2] at HV
      rw [hj2] at hu hrow
      obtain ⟨_, hlc, hcm, hsv, hcells⟩ := hrow
      skip
      
      clear hcells hsv hvs2 HVS HO HVL
      
      subst hu
      unfold maxLen at hcm
      have hv2 : v = Vl.z := HV.out
      subst hv2
      have b3 : decide (e.col < 0) = false := by simpa using HX.out.1
      have b4 : decide ((rlen : Int) ≤ e.col) = true := by simpa using HX.out.2
      have hlt2 : decide ((j : Int) < (len : Int)) = false := by simp; omega
      go_wp2_with fail
      have z0 : (y.val.cell? ⟨w.heap.size + 1, 0, none⟩).isSome = true := by rw [y.cell 0 (by simp)]; simp [go_sem]
      have z1 : (y.val.cell? ⟨w.heap.size + 1, 1, none⟩).isSome = true := by rw [y.cell 1 (by simp)]; simp [go_sem]
      have z2 : (y.val.cell? ⟨w.heap.size + 1, 2, none⟩).isSome = true := by rw [y.cell 2 (by simp)]; simp [go_sem]
      have c0 : (x.val.cell? ⟨w.heap.size + 1, 0, none⟩).isSome = true := by rw [x.cell 0 m1]; exact z0
      have c1 : (x.val.cell? ⟨w.heap.size + 1, 1, none⟩).isSome = true := by rw [x.cell 1 m1]; exact z1
      have c2 : (x.val.cell? ⟨w.heap.size + 1, 2, none⟩).isSome = true := by rw [x.cell 2 m1]; exact z2
      refine ret_ex rfl ?_
      simp [results, Tryd.results14, go_sem, Vl.z, c0, c1, c2]
      refine Cls.of ?_
      repeat first | with_reducible exact Below.refl _ _ | with_reducible assumption | with_reducible refine Below.setCell ?_ (by first | omega | (simp; done) | (simp; omega)) _ | with_reducible refine Below.alloc ?_ (by first | omega | (simp; done) | (simp; omega)) _ | with_reducible refine Below.drew ?_ | with_reducible refine Ext.on _ ?_ (by first | omega | (simp; done) | (simp; omega))
set_option maxRecDepth 20000 in
set_option maxHeartbeats 4000000 in
theorem reval_5c (m : Nat) (e : Ex) (ih : ∀ k ∈ e.kids, REvalOf k) (a : Option Addr) (len cap : Nat) (ok : Nat → Prop) (ra : Option Addr) (rlen rcap : Nat) (row : List Vl) (w : World) (hk : Kids w ok a len cap e.kids) (hsl : Slim e) (hr : RowIs w ra rlen rcap row) (hop : e.op = 5) (hl : len = 0) (hs : ∀ v ∈ e.kids.map (evalE · row), v.s.size ≤ maxLen) (v : Vl) (hv : v = row.getD m Vl.z) (hx : m < rlen) :
    Calls Tryd.prog 14 #[.agg #[.int .i64 5, .int .i64 e.ty, .int .i64 e.num, .string e.text, .int .i64 ((m : Nat) : Int), .slice a len cap], .slice ra rlen rcap] w fun r w' => r = .returned (.agg #[.int .i64 (v).k, .int .i64 (v).n, .string (v).s]) ∧ Cls w w' := by
  obtain ⟨i0, hi, hz0, hz1, hz2⟩ := info_parts infoVl
  have hlen := hk.len_eq
  have hle := hk.le
  have hmax := hk.max
  have h12 := hsl.le
  unfold maxLen at hmax
  have HL := Lib.hid hlen
  have hl12 : len ≤ 12 := by omega
  have HV := Lib.hid hv
  have HX := Lib.hid hx
  clear hx
  have HS := Lib.hid hs
  have HR := Lib.hid hr
  have HK := Lib.hid hk
  have HI := Lib.hid ih
  have HM := Lib.hid hsl
  have CK : Hid (∀ W, Below w.heap.size w W → Calls Tryd.prog 41 #[.int .i64 5, .int .i64 (len : Nat)] W fun r w' => r = .returned (.bool true) ∧ Cls W w') := Lib.hid (fun W _ => by
    have := rkids_calls 5 len W (by omega) (by omega)
    rw [show takesO 5 len = true by rw [hl]; rfl] at this
    exact this)
  have H2 := Lib.hid hl
  clear hlen h12 hv hs hr hk ih hsl hop hl
  go_enter Tryd.func14, Tryd.ntmps14
  go_wp2_with ((go_at_call 41; ((with_reducible refine (CK.out _ ?_).mono ?_); (· (repeat first | with_reducible exact Below.refl _ _ | with_reducible assumption | with_reducible refine Below.setCell ?_ (by first | omega | (simp; done) | (simp; omega)) _ | with_reducible refine Below.alloc ?_ (by first | omega | (simp; done) | (simp; omega)) _ | with_reducible refine Below.drew ?_ | with_reducible refine Ext.on _ ?_ (by first | omega | (simp; done) | (simp; omega)))); rintro e1 _ ⟨rfl, y, rfl⟩; obtain ⟨l1, l2, l3, l4, l5⟩ := y.lts (b := w.heap.size) (by simp; omega); obtain ⟨m1, m2, m3, m4, m5⟩ := y.lts (b := w.heap.size + 1) (by simp); have ys := y.size; simp at ys)))
  go_loopw [5, 6] (fun u i wr => ∃ (j : Nat) (vs : List Vl), Cls y.val wr ∧ j ≤ len ∧ i = .int .i64 j ∧ wr.ownsRow y.val.heap.size 39 3 u vs.length (flatV vs) ∧ vs = (e.kids.take j).map (evalE · row)) (fun _ i _ => len - (intOf i).toNat)
  case atStart => exact ⟨0, [], Cls.of (Below.refl _ _), Nat.zero_le _, rfl, World.ownsRow_nil _ _ _ 3, rfl⟩
  case round =>
    obtain ⟨j, vs, ⟨x, rfl⟩, hj, rfl, hrow, hvs⟩ := hrel
    have hvl : vs.length = j := by rw [hvs, List.length_map, List.length_take, HL.out]; omega
    have HO := Lib.hid hrow
    have HVS := Lib.hid hvs
    have HVL := Lib.hid hvl
    clear hrow hvs hvl
    have xs := x.size
    obtain ⟨x1, x2, x3, x4, x5⟩ := x.lts l1
    obtain ⟨n1, n2, n3, n4, n5⟩ := x.lts m1
    by_cases hlt : j < len
    · obtain ⟨aj, lenj, capj, ⟨b, off, rfl, hb, _, q0, q1, q2, q3, q4, q5⟩, fj, kj⟩ := HK.out.at_ (i := j) hlt
      have hb1 : b < w.heap.size + 1 := by omega
      have hb2 : b < w.heap.size + 1 + 1 := by omega
      obtain ⟨g1, g2, g3, g4, g5⟩ := y.lts (b := b) (by simp; omega)
      obtain ⟨k1, k2, k3, k4, k5⟩ := x.lts g1
      have hmem := getD_mem (l := e.kids) (i := j) (by rw [HL.out]; exact hlt)
      have C1 : Hid (∀ W, Below w.heap.size w W → Calls Tryd.prog 14 #[.agg #[.int .i64 (e.kids.getD j Ex.z).op, .int .i64 (e.kids.getD j Ex.z).ty, .int .i64 (e.kids.getD j Ex.z).num, .string (e.kids.getD j Ex.z).text, .int .i64 (e.kids.getD j Ex.z).col, .slice aj lenj capj], .slice ra rlen rcap] W fun r w' => r = .returned (.agg #[.int .i64 (evalE (e.kids.getD j Ex.z) row).k, .int .i64 (evalE (e.kids.getD j Ex.z) row).n, .string (evalE (e.kids.getD j Ex.z) row).s]) ∧ Cls W w') := Lib.hid (fun W hW => HI.out _ hmem aj lenj capj ok ra rlen rcap row W (kj.later hW) fj (HM.out.kid _ hmem) (HR.out.later hW))
      have HT := Lib.hid (take_mapV (l := e.kids) (j := j) row (by rw [HL.out]; exact hlt))
      clear fj kj hmem
      generalize evalE (e.kids.getD j Ex.z) row = vj at C1 HT
      generalize e.kids.getD j Ex.z = ej at *
      go_wp2_with (first | (go_at_call 14; ((with_reducible refine (C1.out _ ?_).mono ?_); (· (repeat first | with_reducible exact Below.refl _ _ | with_reducible assumption | with_reducible refine Below.setCell ?_ (by first | omega | (simp; done) | (simp; omega)) _ | with_reducible refine Below.alloc ?_ (by first | omega | (simp; done) | (simp; omega)) _ | with_reducible refine Below.drew ?_ | with_reducible refine Ext.on _ ?_ (by first | omega | (simp; done) | (simp; omega)))); rintro e1 _ ⟨rfl, t, rfl⟩; have ts := t.size)) | (at_builtin; refine wpList_append_own_at _ rfl _ _ 32 rfl y.val.heap.size 39 i0 (.agg #[.int .i64 0, .int .i64 0, .string ⟨#[]⟩]) 3 32 Tryd.underlying32 hi hz0 hz1 hz2 rfl (by decide) _ vs.length (flatV vs) rfl (ownV_later HO.out (by repeat first | with_reducible exact Below.refl _ _ | with_reducible assumption | with_reducible refine Below.setCell ?_ (by first | omega | (simp; done) | (simp; omega)) _ | with_reducible refine Below.alloc ?_ (by first | omega | (simp; done) | (simp; omega)) _ | with_reducible refine Below.drew ?_ | with_reducible refine Ext.on _ ?_ (by first | omega | (simp; done) | (simp; omega)))) ⟨t.val.heap.size, 0, none⟩ 1 1 (Vl.cells vj) rfl rfl (cells_new _ _ _) (Vl.one _) (by have := HVL.out; unfold maxLen; omega) (by have := HVL.out; omega) (by have := t.size; simp at this ⊢; omega) ?_; intro v3 w3 hown3 hg3 _ hat3; have HO3 := Lib.hid hown3; have HG := Lib.hid hg3; have HA := Lib.hid hat3; clear hown3 hg3 hat3))
      go_roundw
      case rel =>
        refine ⟨j + 1, vs ++ [vj], Cls.of (Below.grown (w := t.val.alloc _) ?_ HG.out (by simp; omega) (fun k hk => by have := (HO.out.lt k hk).1; simp; omega)), by omega, by go_num, ?_, by rw [HVS.out, HT.out]⟩
        · repeat first | with_reducible exact Below.refl _ _ | with_reducible assumption | with_reducible refine Below.setCell ?_ (by first | omega | (simp; done) | (simp; omega)) _ | with_reducible refine Below.alloc ?_ (by first | omega | (simp; done) | (simp; omega)) _ | with_reducible refine Below.drew ?_ | with_reducible refine Ext.on _ ?_ (by first | omega | (simp; done) | (simp; omega))
        · rw [List.length_append, flatV_append]; simpa [flatV] using HO3.out
      case measure => simp [intOf]; omega
    · have hj2 : vs.length = 0 := by have := HVL.out; have := H2.out; omega
      have hvs2 : vs = e.kids.map (evalE · row) := by rw [HVS.out, List.take_of_length_le (by rw [HL.out]; omega)]
      obtain ⟨a3, cap3, hu, hrow⟩ := rowIs_of HO.out (by rw [hvs2]; exact HS.out)
      try rw [← hvs2] at HV
      rw [hj2] at hu hrow
      obtain ⟨_, hlc, hcm, hsv, hcells⟩ := hrow
      skip
      
      clear hcells hsv hvs2 HVS HO HVL
      
      subst hu
      unfold maxLen at hcm
      have hm := HX.out
      have b3 : decide (((m : Nat) : Int) < 0) = false := by simp
      have b4 : decide ((rlen : Int) ≤ ((m : Nat) : Int)) = false := by simp; omega
      obtain ⟨_, hrl, hrm, _, hrcells⟩ := HR.out
      obtain ⟨rb, roff, rfl, hrb, hrc⟩ := hrcells.resolve_left (by omega)
      obtain ⟨w0, w1, w2⟩ := hrc m hm
      have hrb1 : rb < w.heap.size + 1 := by omega
      have hrb2 : rb < w.heap.size + 1 + 1 := by omega
      obtain ⟨g1, g2, g3, g4, g5⟩ := y.lts (b := rb) (by simp; omega)
      obtain ⟨k1, k2, k3, k4, k5⟩ := x.lts g1
      clear hrc hrcells
      unfold maxLen at hrm
      rw [← HV.out] at w0 w1 w2
      have hlt2 : decide ((j : Int) < (len : Int)) = false := by simp; omega
      go_wp2_with fail
      have z0 : (y.val.cell? ⟨w.heap.size + 1, 0, none⟩).isSome = true := by rw [y.cell 0 (by simp)]; simp [go_sem]
      have z1 : (y.val.cell? ⟨w.heap.size + 1, 1, none⟩).isSome = true := by rw [y.cell 1 (by simp)]; simp [go_sem]
      have z2 : (y.val.cell? ⟨w.heap.size + 1, 2, none⟩).isSome = true := by rw [y.cell 2 (by simp)]; simp [go_sem]
      have c0 : (x.val.cell? ⟨w.heap.size + 1, 0, none⟩).isSome = true := by rw [x.cell 0 m1]; exact z0
      have c1 : (x.val.cell? ⟨w.heap.size + 1, 1, none⟩).isSome = true := by rw [x.cell 1 m1]; exact z1
      have c2 : (x.val.cell? ⟨w.heap.size + 1, 2, none⟩).isSome = true := by rw [x.cell 2 m1]; exact z2
      refine ret_ex rfl ?_
      simp [results, Tryd.results14, go_sem, c0, c1, c2]
      refine Cls.of ?_
      repeat first | with_reducible exact Below.refl _ _ | with_reducible assumption | with_reducible refine Below.setCell ?_ (by first | omega | (simp; done) | (simp; omega)) _ | with_reducible refine Below.alloc ?_ (by first | omega | (simp; done) | (simp; omega)) _ | with_reducible refine Below.drew ?_ | with_reducible refine Ext.on _ ?_ (by first | omega | (simp; done) | (simp; omega))
end Go.Proofs.YtpddkljedhghkaaDoor
