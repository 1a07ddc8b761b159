/-
  What the reference's Eval gives, operation by operation: part 2 of 4.
-/
import Derived.Test.YtpddkljedhghkaaDoorA17
set_option linter.unusedVariables false
namespace Go.Proofs.YtpddkljedhghkaaDoor
open Go Go.RowKit
set_option maxRecDepth 20000 in
set_option maxHeartbeats 4000000 in
theorem reval_6 (e : Ex) (ih : ∀ k ∈ e.kids, REvalOf k) (a : Option Addr) (len cap : Nat) (ok : Nat → Prop) (ra : Option Addr) (rlen rcap : Nat) (row : List Vl) (w : World) (hk : Kids w ok a len cap e.kids) (hsl : Slim e) (hr : RowIs w ra rlen rcap row) (hop : e.op = 6) (hl : len = 2) (hs : ∀ v ∈ e.kids.map (evalE · row), v.s.size ≤ maxLen) (v : Vl) (hv : v = biV 6 ((e.kids.map (evalE · row)).getD 0 Vl.z) ((e.kids.map (evalE · row)).getD 1 Vl.z)) :
    Calls Tryd.prog 14 #[.agg #[.int .i64 6, .int .i64 e.ty, .int .i64 e.num, .string e.text, .int .i64 e.col, .slice a len cap], .slice ra rlen rcap] w fun r w' => r = .returned (.agg #[.int .i64 (v).k, .int .i64 (v).n, .string (v).s]) ∧ Cls w w' := by
  obtain ⟨i0, hi, hz0, hz1, hz2⟩ := info_parts infoVl
  have hlen := hk.len_eq
  have hle := hk.le
  have hmax := hk.max
  have h12 := hsl.le
  unfold maxLen at hmax
  have HL := Lib.hid hlen
  have hl12 : len ≤ 12 := by omega
  have HV := Lib.hid hv
  have HS := Lib.hid hs
  have HR := Lib.hid hr
  have HK := Lib.hid hk
  have HI := Lib.hid ih
  have HM := Lib.hid hsl
  have CK : Hid (∀ W, Below w.heap.size w W → Calls Tryd.prog 41 #[.int .i64 6, .int .i64 (len : Nat)] W fun r w' => r = .returned (.bool true) ∧ Cls W w') := Lib.hid (fun W _ => by
    have := rkids_calls 6 len W (by omega) (by omega)
    rw [show takesO 6 len = true by rw [hl]; rfl] at this
    exact this)
  have H2 := Lib.hid hl
  clear hlen h12 hv hs hr hk ih hsl hop hl
  go_enter Tryd.func14, Tryd.ntmps14
  go_wp2_with ((go_at_call 41; ((with_reducible refine (CK.out _ ?_).mono ?_); (· (repeat first | with_reducible exact Below.refl _ _ | with_reducible assumption | with_reducible refine Below.setCell ?_ (by first | omega | (simp; done) | (simp; omega)) _ | with_reducible refine Below.alloc ?_ (by first | omega | (simp; done) | (simp; omega)) _ | with_reducible refine Below.drew ?_ | with_reducible refine Ext.on _ ?_ (by first | omega | (simp; done) | (simp; omega)))); rintro e1 _ ⟨rfl, y, rfl⟩; obtain ⟨l1, l2, l3, l4, l5⟩ := y.lts (b := w.heap.size) (by simp; omega); obtain ⟨m1, m2, m3, m4, m5⟩ := y.lts (b := w.heap.size + 1) (by simp); have ys := y.size; simp at ys)))
  go_loopw [5, 6] (fun u i wr => ∃ (j : Nat) (vs : List Vl), Cls y.val wr ∧ j ≤ len ∧ i = .int .i64 j ∧ wr.ownsRow y.val.heap.size 39 3 u vs.length (flatV vs) ∧ vs = (e.kids.take j).map (evalE · row)) (fun _ i _ => len - (intOf i).toNat)
  case atStart => exact ⟨0, [], Cls.of (Below.refl _ _), Nat.zero_le _, rfl, World.ownsRow_nil _ _ _ 3, rfl⟩
  case round =>
    obtain ⟨j, vs, ⟨x, rfl⟩, hj, rfl, hrow, hvs⟩ := hrel
    have hvl : vs.length = j := by rw [hvs, List.length_map, List.length_take, HL.out]; omega
    have HO := Lib.hid hrow
    have HVS := Lib.hid hvs
    have HVL := Lib.hid hvl
    clear hrow hvs hvl
    have xs := x.size
    obtain ⟨x1, x2, x3, x4, x5⟩ := x.lts l1
    obtain ⟨n1, n2, n3, n4, n5⟩ := x.lts m1
    by_cases hlt : j < len
    · obtain ⟨aj, lenj, capj, ⟨b, off, rfl, hb, _, q0, q1, q2, q3, q4, q5⟩, fj, kj⟩ := HK.out.at_ (i := j) hlt
      have hb1 : b < w.heap.size + 1 := by omega
      have hb2 : b < w.heap.size + 1 + 1 := by omega
      obtain ⟨g1, g2, g3, g4, g5⟩ := y.lts (b := b) (by simp; omega)
      obtain ⟨k1, k2, k3, k4, k5⟩ := x.lts g1
      have hmem := getD_mem (l := e.kids) (i := j) (by rw [HL.out]; exact hlt)
      have C1 : Hid (∀ W, Below w.heap.size w W → Calls Tryd.prog 14 #[.agg #[.int .i64 (e.kids.getD j Ex.z).op, .int .i64 (e.kids.getD j Ex.z).ty, .int .i64 (e.kids.getD j Ex.z).num, .string (e.kids.getD j Ex.z).text, .int .i64 (e.kids.getD j Ex.z).col, .slice aj lenj capj], .slice ra rlen rcap] W fun r w' => r = .returned (.agg #[.int .i64 (evalE (e.kids.getD j Ex.z) row).k, .int .i64 (evalE (e.kids.getD j Ex.z) row).n, .string (evalE (e.kids.getD j Ex.z) row).s]) ∧ Cls W w') := Lib.hid (fun W hW => HI.out _ hmem aj lenj capj ok ra rlen rcap row W (kj.later hW) fj (HM.out.kid _ hmem) (HR.out.later hW))
      have HT := Lib.hid (take_mapV (l := e.kids) (j := j) row (by rw [HL.out]; exact hlt))
      clear fj kj hmem
      generalize evalE (e.kids.getD j Ex.z) row = vj at C1 HT
      generalize e.kids.getD j Ex.z = ej at *
      go_wp2_with (first | (go_at_call 14; ((with_reducible refine (C1.out _ ?_).mono ?_); (· (repeat first | with_reducible exact Below.refl _ _ | with_reducible assumption | with_reducible refine Below.setCell ?_ (by first | omega | (simp; done) | (simp; omega)) _ | with_reducible refine Below.alloc ?_ (by first | omega | (simp; done) | (simp; omega)) _ | with_reducible refine Below.drew ?_ | with_reducible refine Ext.on _ ?_ (by first | omega | (simp; done) | (simp; omega)))); rintro e1 _ ⟨rfl, t, rfl⟩; have ts := t.size)) | (at_builtin; refine wpList_append_own_at _ rfl _ _ 32 rfl y.val.heap.size 39 i0 (.agg #[.int .i64 0, .int .i64 0, .string ⟨#[]⟩]) 3 32 Tryd.underlying32 hi hz0 hz1 hz2 rfl (by decide) _ vs.length (flatV vs) rfl (ownV_later HO.out (by repeat first | with_reducible exact Below.refl _ _ | with_reducible assumption | with_reducible refine Below.setCell ?_ (by first | omega | (simp; done) | (simp; omega)) _ | with_reducible refine Below.alloc ?_ (by first | omega | (simp; done) | (simp; omega)) _ | with_reducible refine Below.drew ?_ | with_reducible refine Ext.on _ ?_ (by first | omega | (simp; done) | (simp; omega)))) ⟨t.val.heap.size, 0, none⟩ 1 1 (Vl.cells vj) rfl rfl (cells_new _ _ _) (Vl.one _) (by have := HVL.out; unfold maxLen; omega) (by have := HVL.out; omega) (by have := t.size; simp at this ⊢; omega) ?_; intro v3 w3 hown3 hg3 _ hat3; have HO3 := Lib.hid hown3; have HG := Lib.hid hg3; have HA := Lib.hid hat3; clear hown3 hg3 hat3))
      go_roundw
      case rel =>
        refine ⟨j + 1, vs ++ [vj], Cls.of (Below.grown (w := t.val.alloc _) ?_ HG.out (by simp; omega) (fun k hk => by have := (HO.out.lt k hk).1; simp; omega)), by omega, by go_num, ?_, by rw [HVS.out, HT.out]⟩
        · repeat first | with_reducible exact Below.refl _ _ | with_reducible assumption | with_reducible refine Below.setCell ?_ (by first | omega | (simp; done) | (simp; omega)) _ | with_reducible refine Below.alloc ?_ (by first | omega | (simp; done) | (simp; omega)) _ | with_reducible refine Below.drew ?_ | with_reducible refine Ext.on _ ?_ (by first | omega | (simp; done) | (simp; omega))
        · rw [List.length_append, flatV_append]; simpa [flatV] using HO3.out
      case measure => simp [intOf]; omega
    · have hj2 : vs.length = 2 := by have := HVL.out; have := H2.out; omega
      have hvs2 : vs = e.kids.map (evalE · row) := by rw [HVS.out, List.take_of_length_le (by rw [HL.out]; omega)]
      obtain ⟨a3, cap3, hu, hrow⟩ := rowIs_of HO.out (by rw [hvs2]; exact HS.out)
      rw [← hvs2] at HV
      rw [hj2] at hu hrow
      obtain ⟨_, hlc, hcm, hsv, hcells⟩ := hrow
      obtain ⟨b, off, rfl, hb, hc⟩ := hcells.resolve_left (by omega)
      obtain ⟨p0, p1, p2⟩ := hc 0 (by omega)
      have hs0 := getD_size hsv 0
      simp only [Nat.zero_mul, Nat.add_zero] at p0 p1 p2
      obtain ⟨q0, q1, q2⟩ := hc 1 (by omega)
      have hs1 := getD_size hsv 1
      simp only [Nat.one_mul, Nat.add_assoc, Nat.reduceAdd] at q0 q1 q2
      clear hc hcells hsv hvs2 HVS HO HVL
      generalize vs.getD 0 Vl.z = v0 at *
      generalize vs.getD 1 Vl.z = v1 at *
      subst hu
      unfold maxLen at hcm
      have CX : Hid (∀ W, Below w.heap.size w W → Calls Tryd.prog 42 #[.int .i64 6, .agg #[.int .i64 (v0).k, .int .i64 (v0).n, .string (v0).s], .agg #[.int .i64 (v1).k, .int .i64 (v1).n, .string (v1).s]] W fun r w' => r = .returned (.agg #[.int .i64 (v).k, .int .i64 (v).n, .string (v).s]) ∧ Cls W w') := Lib.hid (fun W _ => by rw [HV.out, show biV 6 v0 v1 = arV3 6 v0 v1 from rfl]; exact rArith_calls 6 _ _ _ _ _ _ W hs0 hs1)
      have hlt2 : decide ((j : Int) < (len : Int)) = false := by simp; omega
      go_wp2_with fail
      refine wp_region_ext_tail 9 (by kernel_rfl) (by kernel_rfl) ?_
      simp only [List.take_succ_cons, List.take_zero, List.drop_succ_cons, List.drop_zero]
      repeat (go_big_quiet_step (first | (go_at_call 42; exact Cls.call (CX.out _ (by repeat first | with_reducible exact Below.refl _ _ | with_reducible assumption | with_reducible refine Below.setCell ?_ (by first | omega | (simp; done) | (simp; omega)) _ | with_reducible refine Below.alloc ?_ (by first | omega | (simp; done) | (simp; omega)) _ | with_reducible refine Below.drew ?_ | with_reducible refine Ext.on _ ?_ (by first | omega | (simp; done) | (simp; omega)))))))
      refine wpQuiet_nil ?_
      rintro _ ⟨t, rfl⟩
      obtain ⟨t1, t2, t3, t4, t5⟩ := t.lts n1
      go_wp2_with fail
      have z0 : (y.val.cell? ⟨w.heap.size + 1, 0, none⟩).isSome = true := by rw [y.cell 0 (by simp)]; simp [go_sem]
      have z1 : (y.val.cell? ⟨w.heap.size + 1, 1, none⟩).isSome = true := by rw [y.cell 1 (by simp)]; simp [go_sem]
      have z2 : (y.val.cell? ⟨w.heap.size + 1, 2, none⟩).isSome = true := by rw [y.cell 2 (by simp)]; simp [go_sem]
      have c0 : (t.val.cell? ⟨w.heap.size + 1, 0, none⟩).isSome = true := by rw [t.cell 0 n1, x.cell 0 m1]; exact z0
      have c1 : (t.val.cell? ⟨w.heap.size + 1, 1, none⟩).isSome = true := by rw [t.cell 1 n1, x.cell 1 m1]; exact z1
      have c2 : (t.val.cell? ⟨w.heap.size + 1, 2, none⟩).isSome = true := by rw [t.cell 2 n1, x.cell 2 m1]; exact z2
      refine ret_ex rfl ?_
      simp [results, Tryd.results14, go_sem, c0, c1, c2]
      refine Cls.of ?_
      repeat first | with_reducible exact Below.refl _ _ | with_reducible assumption | with_reducible refine Below.setCell ?_ (by first | omega | (simp; done) | (simp; omega)) _ | with_reducible refine Below.alloc ?_ (by first | omega | (simp; done) | (simp; omega)) _ | with_reducible refine Below.drew ?_ | with_reducible refine Ext.on _ ?_ (by first | omega | (simp; done) | (simp; omega))
set_option maxRecDepth 20000 in
set_option maxHeartbeats 4000000 in
theorem reval_7 (e : Ex) (ih : ∀ k ∈ e.kids, REvalOf k) (a : Option Addr) (len cap : Nat) (ok : Nat → Prop) (ra : Option Addr) (rlen rcap : Nat) (row : List Vl) (w : World) (hk : Kids w ok a len cap e.kids) (hsl : Slim e) (hr : RowIs w ra rlen rcap row) (hop : e.op = 7) (hl : len = 2) (hs : ∀ v ∈ e.kids.map (evalE · row), v.s.size ≤ maxLen) (v : Vl) (hv : v = biV 7 ((e.kids.map (evalE · row)).getD 0 Vl.z) ((e.kids.map (evalE · row)).getD 1 Vl.z)) :
    Calls Tryd.prog 14 #[.agg #[.int .i64 7, .int .i64 e.ty, .int .i64 e.num, .string e.text, .int .i64 e.col, .slice a len cap], .slice ra rlen rcap] w fun r w' => r = .returned (.agg #[.int .i64 (v).k, .int .i64 (v).n, .string (v).s]) ∧ Cls w w' := by
  obtain ⟨i0, hi, hz0, hz1, hz2⟩ := info_parts infoVl
  have hlen := hk.len_eq
  have hle := hk.le
  have hmax := hk.max
  have h12 := hsl.le
  unfold maxLen at hmax
  have HL := Lib.hid hlen
  have hl12 : len ≤ 12 := by omega
  have HV := Lib.hid hv
  have HS := Lib.hid hs
  have HR := Lib.hid hr
  have HK := Lib.hid hk
  have HI := Lib.hid ih
  have HM := Lib.hid hsl
  have CK : Hid (∀ W, Below w.heap.size w W → Calls Tryd.prog 41 #[.int .i64 7, .int .i64 (len : Nat)] W fun r w' => r = .returned (.bool true) ∧ Cls W w') := Lib.hid (fun W _ => by
    have := rkids_calls 7 len W (by omega) (by omega)
    rw [show takesO 7 len = true by rw [hl]; rfl] at this
    exact this)
  have H2 := Lib.hid hl
  clear hlen h12 hv hs hr hk ih hsl hop hl
  go_enter Tryd.func14, Tryd.ntmps14
  go_wp2_with ((go_at_call 41; ((with_reducible refine (CK.out _ ?_).mono ?_); (· (repeat first | with_reducible exact Below.refl _ _ | with_reducible assumption | with_reducible refine Below.setCell ?_ (by first | omega | (simp; done) | (simp; omega)) _ | with_reducible refine Below.alloc ?_ (by first | omega | (simp; done) | (simp; omega)) _ | with_reducible refine Below.drew ?_ | with_reducible refine Ext.on _ ?_ (by first | omega | (simp; done) | (simp; omega)))); rintro e1 _ ⟨rfl, y, rfl⟩; obtain ⟨l1, l2, l3, l4, l5⟩ := y.lts (b := w.heap.size) (by simp; omega); obtain ⟨m1, m2, m3, m4, m5⟩ := y.lts (b := w.heap.size + 1) (by simp); have ys := y.size; simp at ys)))
  go_loopw [5, 6] (fun u i wr => ∃ (j : Nat) (vs : List Vl), Cls y.val wr ∧ j ≤ len ∧ i = .int .i64 j ∧ wr.ownsRow y.val.heap.size 39 3 u vs.length (flatV vs) ∧ vs = (e.kids.take j).map (evalE · row)) (fun _ i _ => len - (intOf i).toNat)
  case atStart => exact ⟨0, [], Cls.of (Below.refl _ _), Nat.zero_le _, rfl, World.ownsRow_nil _ _ _ 3, rfl⟩
  case round =>
    obtain ⟨j, vs, ⟨x, rfl⟩, hj, rfl, hrow, hvs⟩ := hrel
    have hvl : vs.length = j := by rw [hvs, List.length_map, List.length_take, HL.out]; omega
    have HO := Lib.hid hrow
    have HVS := Lib.hid hvs
    have HVL := Lib.hid hvl
    clear hrow hvs hvl
    have xs := x.size
    obtain ⟨x1, x2, x3, x4, x5⟩ := x.lts l1
    obtain ⟨n1, n2, n3, n4, n5⟩ := x.lts m1
    by_cases hlt : j < len
    · obtain ⟨aj, lenj, capj, ⟨b, off, rfl, hb, _, q0, q1, q2, q3, q4, q5⟩, fj, kj⟩ := HK.out.at_ (i := j) hlt
      have hb1 : b < w.heap.size + 1 := by omega
      have hb2 : b < w.heap.size + 1 + 1 := by omega
      obtain ⟨g1, g2, g3, g4, g5⟩ := y.lts (b := b) (by simp; omega)
      obtain ⟨k1, k2, k3, k4, k5⟩ := x.lts g1
      have hmem := getD_mem (l := e.kids) (i := j) (by rw [HL.out]; exact hlt)
      have C1 : Hid (∀ W, Below w.heap.size w W → Calls Tryd.prog 14 #[.agg #[.int .i64 (e.kids.getD j Ex.z).op, .int .i64 (e.kids.getD j Ex.z).ty, .int .i64 (e.kids.getD j Ex.z).num, .string (e.kids.getD j Ex.z).text, .int .i64 (e.kids.getD j Ex.z).col, .slice aj lenj capj], .slice ra rlen rcap] W fun r w' => r = .returned (.agg #[.int .i64 (evalE (e.kids.getD j Ex.z) row).k, .int .i64 (evalE (e.kids.getD j Ex.z) row).n, .string (evalE (e.kids.getD j Ex.z) row).s]) ∧ Cls W w') := Lib.hid (fun W hW => HI.out _ hmem aj lenj capj ok ra rlen rcap row W (kj.later hW) fj (HM.out.kid _ hmem) (HR.out.later hW))
      have HT := Lib.hid (take_mapV (l := e.kids) (j := j) row (by rw [HL.out]; exact hlt))
      clear fj kj hmem
      generalize evalE (e.kids.getD j Ex.z) row = vj at C1 HT
      generalize e.kids.getD j Ex.z = ej at *
      go_wp2_with (first | (go_at_call 14; ((with_reducible refine (C1.out _ ?_).mono ?_); (· (repeat first | with_reducible exact Below.refl _ _ | with_reducible assumption | with_reducible refine Below.setCell ?_ (by first | omega | (simp; done) | (simp; omega)) _ | with_reducible refine Below.alloc ?_ (by first | omega | (simp; done) | (simp; omega)) _ | with_reducible refine Below.drew ?_ | with_reducible refine Ext.on _ ?_ (by first | omega | (simp; done) | (simp; omega)))); rintro e1 _ ⟨rfl, t, rfl⟩; have ts := t.size)) | (at_builtin; refine wpList_append_own_at _ rfl _ _ 32 rfl y.val.heap.size 39 i0 (.agg #[.int .i64 0, .int .i64 0, .string ⟨#[]⟩]) 3 32 Tryd.underlying32 hi hz0 hz1 hz2 rfl (by decide) _ vs.length (flatV vs) rfl (ownV_later HO.out (by repeat first | with_reducible exact Below.refl _ _ | with_reducible assumption | with_reducible refine Below.setCell ?_ (by first | omega | (simp; done) | (simp; omega)) _ | with_reducible refine Below.alloc ?_ (by first | omega | (simp; done) | (simp; omega)) _ | with_reducible refine Below.drew ?_ | with_reducible refine Ext.on _ ?_ (by first | omega | (simp; done) | (simp; omega)))) ⟨t.val.heap.size, 0, none⟩ 1 1 (Vl.cells vj) rfl rfl (cells_new _ _ _) (Vl.one _) (by have := HVL.out; unfold maxLen; omega) (by have := HVL.out; omega) (by have := t.size; simp at this ⊢; omega) ?_; intro v3 w3 hown3 hg3 _ hat3; have HO3 := Lib.hid hown3; have HG := Lib.hid hg3; have HA := Lib.hid hat3; clear hown3 hg3 hat3))
      go_roundw
      case rel =>
        refine ⟨j + 1, vs ++ [vj], Cls.of (Below.grown (w := t.val.alloc _) ?_ HG.out (by simp; omega) (fun k hk => by have := (HO.out.lt k hk).1; simp; omega)), by omega, by go_num, ?_, by rw [HVS.out, HT.out]⟩
        · repeat first | with_reducible exact Below.refl _ _ | with_reducible assumption | with_reducible refine Below.setCell ?_ (by first | omega | (simp; done) | (simp; omega)) _ | with_reducible refine Below.alloc ?_ (by first | omega | (simp; done) | (simp; omega)) _ | with_reducible refine Below.drew ?_ | with_reducible refine Ext.on _ ?_ (by first | omega | (simp; done) | (simp; omega))
        · rw [List.length_append, flatV_append]; simpa [flatV] using HO3.out
      case measure => simp [intOf]; omega
    · have hj2 : vs.length = 2 := by have := HVL.out; have := H2.out; omega
      have hvs2 : vs = e.kids.map (evalE · row) := by rw [HVS.out, List.take_of_length_le (by rw [HL.out]; omega)]
      obtain ⟨a3, cap3, hu, hrow⟩ := rowIs_of HO.out (by rw [hvs2]; exact HS.out)
      rw [← hvs2] at HV
      rw [hj2] at hu hrow
      obtain ⟨_, hlc, hcm, hsv, hcells⟩ := hrow
      obtain ⟨b, off, rfl, hb, hc⟩ := hcells.resolve_left (by omega)
      obtain ⟨p0, p1, p2⟩ := hc 0 (by omega)
      have hs0 := getD_size hsv 0
      simp only [Nat.zero_mul, Nat.add_zero] at p0 p1 p2
      obtain ⟨q0, q1, q2⟩ := hc 1 (by omega)
      have hs1 := getD_size hsv 1
      simp only [Nat.one_mul, Nat.add_assoc, Nat.reduceAdd] at q0 q1 q2
      clear hc hcells hsv hvs2 HVS HO HVL
      generalize vs.getD 0 Vl.z = v0 at *
      generalize vs.getD 1 Vl.z = v1 at *
      subst hu
      unfold maxLen at hcm
      have CX : Hid (∀ W, Below w.heap.size w W → Calls Tryd.prog 42 #[.int .i64 7, .agg #[.int .i64 (v0).k, .int .i64 (v0).n, .string (v0).s], .agg #[.int .i64 (v1).k, .int .i64 (v1).n, .string (v1).s]] W fun r w' => r = .returned (.agg #[.int .i64 (v).k, .int .i64 (v).n, .string (v).s]) ∧ Cls W w') := Lib.hid (fun W _ => by rw [HV.out, show biV 7 v0 v1 = arV3 7 v0 v1 from rfl]; exact rArith_calls 7 _ _ _ _ _ _ W hs0 hs1)
      have hlt2 : decide ((j : Int) < (len : Int)) = false := by simp; omega
      go_wp2_with fail
      refine wp_region_ext_tail 9 (by kernel_rfl) (by kernel_rfl) ?_
      simp only [List.take_succ_cons, List.take_zero, List.drop_succ_cons, List.drop_zero]
      repeat (go_big_quiet_step (first | (go_at_call 42; exact Cls.call (CX.out _ (by repeat first | with_reducible exact Below.refl _ _ | with_reducible assumption | with_reducible refine Below.setCell ?_ (by first | omega | (simp; done) | (simp; omega)) _ | with_reducible refine Below.alloc ?_ (by first | omega | (simp; done) | (simp; omega)) _ | with_reducible refine Below.drew ?_ | with_reducible refine Ext.on _ ?_ (by first | omega | (simp; done) | (simp; omega)))))))
      refine wpQuiet_nil ?_
      rintro _ ⟨t, rfl⟩
      obtain ⟨t1, t2, t3, t4, t5⟩ := t.lts n1
      go_wp2_with fail
      have z0 : (y.val.cell? ⟨w.heap.size + 1, 0, none⟩).isSome = true := by rw [y.cell 0 (by simp)]; simp [go_sem]
      have z1 : (y.val.cell? ⟨w.heap.size + 1, 1, none⟩).isSome = true := by rw [y.cell 1 (by simp)]; simp [go_sem]
      have z2 : (y.val.cell? ⟨w.heap.size + 1, 2, none⟩).isSome = true := by rw [y.cell 2 (by simp)]; simp [go_sem]
      have c0 : (t.val.cell? ⟨w.heap.size + 1, 0, none⟩).isSome = true := by rw [t.cell 0 n1, x.cell 0 m1]; exact z0
      have c1 : (t.val.cell? ⟨w.heap.size + 1, 1, none⟩).isSome = true := by rw [t.cell 1 n1, x.cell 1 m1]; exact z1
      have c2 : (t.val.cell? ⟨w.heap.size + 1, 2, none⟩).isSome = true := by rw [t.cell 2 n1, x.cell 2 m1]; exact z2
      refine ret_ex rfl ?_
      simp [results, Tryd.results14, go_sem, c0, c1, c2]
      refine Cls.of ?_
      repeat first | with_reducible exact Below.refl _ _ | with_reducible assumption | with_reducible refine Below.setCell ?_ (by first | omega | (simp; done) | (simp; omega)) _ | with_reducible refine Below.alloc ?_ (by first | omega | (simp; done) | (simp; omega)) _ | with_reducible refine Below.drew ?_ | with_reducible refine Ext.on _ ?_ (by first | omega | (simp; done) | (simp; omega))
set_option maxRecDepth 20000 in
set_option maxHeartbeats 4000000 in
theorem reval_8 (e : Ex) (ih : ∀ k ∈ e.kids, REvalOf k) (a : Option Addr) (len cap : Nat) (ok : Nat → Prop) (ra : Option Addr) (rlen rcap : Nat) (row : List Vl) (w : World) (hk : Kids w ok a len cap e.kids) (hsl : Slim e) (hr : RowIs w ra rlen rcap row) (hop : e.op = 8) (hl : len = 2) (hs : ∀ v ∈ e.kids.map (evalE · row), v.s.size ≤ maxLen) (v : Vl) (hv : v = biV 8 ((e.kids.map (evalE · row)).getD 0 Vl.z) ((e.kids.map (evalE · row)).getD 1 Vl.z)) :
    Calls Tryd.prog 14 #[.agg #[.int .i64 8, .int .i64 e.ty, .int .i64 e.num, .string e.text, .int .i64 e.col, .slice a len cap], .slice ra rlen rcap] w fun r w' => r = .returned (.agg #[.int .i64 (v).k, .int .i64 (v).n, .string (v).s]) ∧ Cls w w' := by
  obtain ⟨i0, hi, hz0, hz1, hz2⟩ := info_parts infoVl
  have hlen := hk.len_eq
  have hle := hk.le
  have hmax := hk.max
  have h12 := hsl.le
  unfold maxLen at hmax
  have HL := Lib.hid hlen
  have hl12 : len ≤ 12 := by omega
  have HV := Lib.hid hv
  have HS := Lib.hid hs
  have HR := Lib.hid hr
  have HK := Lib.hid hk
  have HI := Lib.hid ih
  have HM := Lib.hid hsl
  have CK : Hid (∀ W, Below w.heap.size w W → Calls Tryd.prog 41 #[.int .i64 8, .int .i64 (len : Nat)] W fun r w' => r = .returned (.bool true) ∧ Cls W w') := Lib.hid (fun W _ => by
    have := rkids_calls 8 len W (by omega) (by omega)
    rw [show takesO 8 len = true by rw [hl]; rfl] at this
    exact this)
  have H2 := Lib.hid hl
  clear hlen h12 hv hs hr hk ih hsl hop hl
  go_enter Tryd.func14, Tryd.ntmps14
  go_wp2_with ((go_at_call 41; ((with_reducible refine (CK.out _ ?_).mono ?_); (· (repeat first | with_reducible exact Below.refl _ _ | with_reducible assumption | with_reducible refine Below.setCell ?_ (by first | omega | (simp; done) | (simp; omega)) _ | with_reducible refine Below.alloc ?_ (by first | omega | (simp; done) | (simp; omega)) _ | with_reducible refine Below.drew ?_ | with_reducible refine Ext.on _ ?_ (by first | omega | (simp; done) | (simp; omega)))); rintro e1 _ ⟨rfl, y, rfl⟩; obtain ⟨l1, l2, l3, l4, l5⟩ := y.lts (b := w.heap.size) (by simp; omega); obtain ⟨m1, m2, m3, m4, m5⟩ := y.lts (b := w.heap.size + 1) (by simp); have ys := y.size; simp at ys)))
  go_loopw [5, 6] (fun u i wr => ∃ (j : Nat) (vs : List Vl), Cls y.val wr ∧ j ≤ len ∧ i = .int .i64 j ∧ wr.ownsRow y.val.heap.size 39 3 u vs.length (flatV vs) ∧ vs = (e.kids.take j).map (evalE · row)) (fun _ i _ => len - (intOf i).toNat)
  case atStart => exact ⟨0, [], Cls.of (Below.refl _ _), Nat.zero_le _, rfl, World.ownsRow_nil _ _ _ 3, rfl⟩
  case round =>
    obtain ⟨j, vs, ⟨x, rfl⟩, hj, rfl, hrow, hvs⟩ := hrel
    have hvl : vs.length = j := by rw [hvs, List.length_map, List.length_take, HL.out]; omega
    have HO := Lib.hid hrow
    have HVS := Lib.hid hvs
    have HVL := Lib.hid hvl
    clear hrow hvs hvl
    have xs := x.size
    obtain ⟨x1, x2, x3, x4, x5⟩ := x.lts l1
    obtain ⟨n1, n2, n3, n4, n5⟩ := x.lts m1
    by_cases hlt : j < len
    · obtain ⟨aj, lenj, capj, ⟨b, off, rfl, hb, _, q0, q1, q2, q3, q4, q5⟩, fj, kj⟩ := HK.out.at_ (i := j) hlt
      have hb1 : b < w.heap.size + 1 := by omega
      have hb2 : b < w.heap.size + 1 + 1 := by omega
      obtain ⟨g1, g2, g3, g4, g5⟩ := y.lts (b := b) (by simp; omega)
      obtain ⟨k1, k2, k3, k4, k5⟩ := x.lts g1
      have hmem := getD_mem (l := e.kids) (i := j) (by rw [HL.out]; exact hlt)
      have C1 : Hid (∀ W, Below w.heap.size w W → Calls Tryd.prog 14 #[.agg #[.int .i64 (e.kids.getD j Ex.z).op, .int .i64 (e.kids.getD j Ex.z).ty, .int .i64 (e.kids.getD j Ex.z).num, .string (e.kids.getD j Ex.z).text, .int .i64 (e.kids.getD j Ex.z).col, .slice aj lenj capj], .slice ra rlen rcap] W fun r w' => r = .returned (.agg #[.int .i64 (evalE (e.kids.getD j Ex.z) row).k, .int .i64 (evalE (e.kids.getD j Ex.z) row).n, .string (evalE (e.kids.getD j Ex.z) row).s]) ∧ Cls W w') := Lib.hid (fun W hW => HI.out _ hmem aj lenj capj ok ra rlen rcap row W (kj.later hW) fj (HM.out.kid _ hmem) (HR.out.later hW))
      have HT := Lib.hid (take_mapV (l := e.kids) (j := j) row (by rw [HL.out]; exact hlt))
      clear fj kj hmem
      generalize evalE (e.kids.getD j Ex.z) row = vj at C1 HT
      generalize e.kids.getD j Ex.z = ej at *
      go_wp2_with (first | (go_at_call 14; ((with_reducible refine (C1.out _ ?_).mono ?_); (· (repeat first | with_reducible exact Below.refl _ _ | with_reducible assumption | with_reducible refine Below.setCell ?_ (by first | omega | (simp; done) | (simp; omega)) _ | with_reducible refine Below.alloc ?_ (by first | omega | (simp; done) | (simp; omega)) _ | with_reducible refine Below.drew ?_ | with_reducible refine Ext.on _ ?_ (by first | omega | (simp; done) | (simp; omega)))); rintro e1 _ ⟨rfl, t, rfl⟩; have ts := t.size)) | (at_builtin; refine wpList_append_own_at _ rfl _ _ 32 rfl y.val.heap.size 39 i0 (.agg #[.int .i64 0, .int .i64 0, .string ⟨#[]⟩]) 3 32 Tryd.underlying32 hi hz0 hz1 hz2 rfl (by decide) _ vs.length (flatV vs) rfl (ownV_later HO.out (by repeat first | with_reducible exact Below.refl _ _ | with_reducible assumption | with_reducible refine Below.setCell ?_ (by first | omega | (simp; done) | (simp; omega)) _ | with_reducible refine Below.alloc ?_ (by first | omega | (simp; done) | (simp; omega)) _ | with_reducible refine Below.drew ?_ | with_reducible refine Ext.on _ ?_ (by first | omega | (simp; done) | (simp; omega)))) ⟨t.val.heap.size, 0, none⟩ 1 1 (Vl.cells vj) rfl rfl (cells_new _ _ _) (Vl.one _) (by have := HVL.out; unfold maxLen; omega) (by have := HVL.out; omega) (by have := t.size; simp at this ⊢; omega) ?_; intro v3 w3 hown3 hg3 _ hat3; have HO3 := Lib.hid hown3; have HG := Lib.hid hg3; have HA := Lib.hid hat3; clear hown3 hg3 hat3))
      go_roundw
      case rel =>
        refine ⟨j + 1, vs ++ [vj], Cls.of (Below.grown (w := t.val.alloc _) ?_ HG.out (by simp; omega) (fun k hk => by have := (HO.out.lt k hk).1; simp; omega)), by omega, by go_num, ?_, by rw [HVS.out, HT.out]⟩
        · repeat first | with_reducible exact Below.refl _ _ | with_reducible assumption | with_reducible refine Below.setCell ?_ (by first | omega | (simp; done) | (simp; omega)) _ | with_reducible refine Below.alloc ?_ (by first | omega | (simp; done) | (simp; omega)) _ | with_reducible refine Below.drew ?_ | with_reducible refine Ext.on _ ?_ (by first | omega | (simp; done) | (simp; omega))
        · rw [List.length_append, flatV_append]; simpa [flatV] using HO3.out
      case measure => simp [intOf]; omega
    · have hj2 : vs.length = 2 := by have := HVL.out; have := H2.out; omega
      have hvs2 : vs = e.kids.map (evalE · row) := by rw [HVS.out, List.take_of_length_le (by rw [HL.out]; omega)]
      obtain ⟨a3, cap3, hu, hrow⟩ := rowIs_of HO.out (by rw [hvs2]; exact HS.out)
      rw [← hvs2] at HV
      rw [hj2] at hu hrow
      obtain ⟨_, hlc, hcm, hsv, hcells⟩ := hrow
      obtain ⟨b, off, rfl, hb, hc⟩ := hcells.resolve_left (by omega)
      obtain ⟨p0, p1, p2⟩ := hc 0 (by omega)
      have hs0 := getD_size hsv 0
      simp only [Nat.zero_mul, Nat.add_zero] at p0 p1 p2
      obtain ⟨q0, q1, q2⟩ := hc 1 (by omega)
      have hs1 := getD_size hsv 1
      simp only [Nat.one_mul, Nat.add_assoc, Nat.reduceAdd] at q0 q1 q2
      clear hc hcells hsv hvs2 HVS HO HVL
      generalize vs.getD 0 Vl.z = v0 at *
      generalize vs.getD 1 Vl.z = v1 at *
      subst hu
      unfold maxLen at hcm
      have CX : Hid (∀ W, Below w.heap.size w W → Calls Tryd.prog 42 #[.int .i64 8, .agg #[.int .i64 (v0).k, .int .i64 (v0).n, .string (v0).s], .agg #[.int .i64 (v1).k, .int .i64 (v1).n, .string (v1).s]] W fun r w' => r = .returned (.agg #[.int .i64 (v).k, .int .i64 (v).n, .string (v).s]) ∧ Cls W w') := Lib.hid (fun W _ => by rw [HV.out, show biV 8 v0 v1 = arV3 8 v0 v1 from rfl]; exact rArith_calls 8 _ _ _ _ _ _ W hs0 hs1)
      have hlt2 : decide ((j : Int) < (len : Int)) = false := by simp; omega
      go_wp2_with fail
      refine wp_region_ext_tail 9 (by kernel_rfl) (by kernel_rfl) ?_
      simp only [List.take_succ_cons, List.take_zero, List.drop_succ_cons, List.drop_zero]
      repeat (go_big_quiet_step (first | (go_at_call 42; exact Cls.call (CX.out _ (by repeat first | with_reducible exact Below.refl _ _ | with_reducible assumption | with_reducible refine Below.setCell ?_ (by first | omega | (simp; done) | (simp; omega)) _ | with_reducible refine Below.alloc ?_ (by first | omega | (simp; done) | (simp; omega)) _ | with_reducible refine Below.drew ?_ | with_reducible refine Ext.on _ ?_ (by first | omega | (simp; done) | (simp; omega)))))))
      refine wpQuiet_nil ?_
      rintro _ ⟨t, rfl⟩
      obtain ⟨t1, t2, t3, t4, t5⟩ := t.lts n1
      go_wp2_with fail
      have z0 : (y.val.cell? ⟨w.heap.size + 1, 0, none⟩).isSome = true := by rw [y.cell 0 (by simp)]; simp [go_sem]
      have z1 : (y.val.cell? ⟨w.heap.size + 1, 1, none⟩).isSome = true := by rw [y.cell 1 (by simp)]; simp [go_sem]
      have z2 : (y.val.cell? ⟨w.heap.size + 1, 2, none⟩).isSome = true := by rw [y.cell 2 (by simp)]; simp [go_sem]
      have c0 : (t.val.cell? ⟨w.heap.size + 1, 0, none⟩).isSome = true := by rw [t.cell 0 n1, x.cell 0 m1]; exact z0
      have c1 : (t.val.cell? ⟨w.heap.size + 1, 1, none⟩).isSome = true := by rw [t.cell 1 n1, x.cell 1 m1]; exact z1
      have c2 : (t.val.cell? ⟨w.heap.size + 1, 2, none⟩).isSome = true := by rw [t.cell 2 n1, x.cell 2 m1]; exact z2
      refine ret_ex rfl ?_
      simp [results, Tryd.results14, go_sem, c0, c1, c2]
      refine Cls.of ?_
      repeat first | with_reducible exact Below.refl _ _ | with_reducible assumption | with_reducible refine Below.setCell ?_ (by first | omega | (simp; done) | (simp; omega)) _ | with_reducible refine Below.alloc ?_ (by first | omega | (simp; done) | (simp; omega)) _ | with_reducible refine Below.drew ?_ | with_reducible refine Ext.on _ ?_ (by first | omega | (simp; done) | (simp; omega))
set_option maxRecDepth 20000 in
set_option maxHeartbeats 4000000 in
theorem reval_9 (e : Ex) (ih : ∀ k ∈ e.kids, REvalOf k) (a : Option Addr) (len cap : Nat) (ok : Nat → Prop) (ra : Option Addr) (rlen rcap : Nat) (row : List Vl) (w : World) (hk : Kids w ok a len cap e.kids) (hsl : Slim e) (hr : RowIs w ra rlen rcap row) (hop : e.op = 9) (hl : len = 2) (hs : ∀ v ∈ e.kids.map (evalE · row), v.s.size ≤ maxLen) (v : Vl) (hv : v = biV 9 ((e.kids.map (evalE · row)).getD 0 Vl.z) ((e.kids.map (evalE · row)).getD 1 Vl.z)) :
    Calls Tryd.prog 14 #[.agg #[.int .i64 9, .int .i64 e.ty, .int .i64 e.num, .string e.text, .int .i64 e.col, .slice a len cap], .slice ra rlen rcap] w fun r w' => r = .returned (.agg #[.int .i64 (v).k, .int .i64 (v).n, .string (v).s]) ∧ Cls w w' := by
  obtain ⟨i0, hi, hz0, hz1, hz2⟩ := info_parts infoVl
  have hlen := hk.len_eq
  have hle := hk.le
  have hmax := hk.max
  have h12 := hsl.le
  unfold maxLen at hmax
  have HL := Lib.hid hlen
  have hl12 : len ≤ 12 := by omega
  have HV := Lib.hid hv
  have HS := Lib.hid hs
  have HR := Lib.hid hr
  have HK := Lib.hid hk
  have HI := Lib.hid ih
  have HM := Lib.hid hsl
  have CK : Hid (∀ W, Below w.heap.size w W → Calls Tryd.prog 41 #[.int .i64 9, .int .i64 (len : Nat)] W fun r w' => r = .returned (.bool true) ∧ Cls W w') := Lib.hid (fun W _ => by
    have := rkids_calls 9 len W (by omega) (by omega)
    rw [show takesO 9 len = true by rw [hl]; rfl] at this
    exact this)
  have H2 := Lib.hid hl
  clear hlen h12 hv hs hr hk ih hsl hop hl
  go_enter Tryd.func14, Tryd.ntmps14
  go_wp2_with ((go_at_call 41; ((with_reducible refine (CK.out _ ?_).mono ?_); (· (repeat first | with_reducible exact Below.refl _ _ | with_reducible assumption | with_reducible refine Below.setCell ?_ (by first | omega | (simp; done) | (simp; omega)) _ | with_reducible refine Below.alloc ?_ (by first | omega | (simp; done) | (simp; omega)) _ | with_reducible refine Below.drew ?_ | with_reducible refine Ext.on _ ?_ (by first | omega | (simp; done) | (simp; omega)))); rintro e1 _ ⟨rfl, y, rfl⟩; obtain ⟨l1, l2, l3, l4, l5⟩ := y.lts (b := w.heap.size) (by simp; omega); obtain ⟨m1, m2, m3, m4, m5⟩ := y.lts (b := w.heap.size + 1) (by simp); have ys := y.size; simp at ys)))
  go_loopw [5, 6] (fun u i wr => ∃ (j : Nat) (vs : List Vl), Cls y.val wr ∧ j ≤ len ∧ i = .int .i64 j ∧ wr.ownsRow y.val.heap.size 39 3 u vs.length (flatV vs) ∧ vs = (e.kids.take j).map (evalE · row)) (fun _ i _ => len - (intOf i).toNat)
  case atStart => exact ⟨0, [], Cls.of (Below.refl _ _), Nat.zero_le _, rfl, World.ownsRow_nil _ _ _ 3, rfl⟩
  case round =>
    obtain ⟨j, vs, ⟨x, rfl⟩, hj, rfl, hrow, hvs⟩ := hrel
    have hvl : vs.length = j := by rw [hvs, List.length_map, List.length_take, HL.out]; omega
    have HO := Lib.hid hrow
    have HVS := Lib.hid hvs
    have HVL := Lib.hid hvl
    clear hrow hvs hvl
    have xs := x.size
    obtain ⟨x1, x2, x3, x4, x5⟩ := x.lts l1
    obtain ⟨n1, n2, n3, n4, n5⟩ := x.lts m1
    by_cases hlt : j < len
    · obtain ⟨aj, lenj, capj, ⟨b, off, rfl, hb, _, q0, q1, q2, q3, q4, q5⟩, fj, kj⟩ := HK.out.at_ (i := j) hlt
      have hb1 : b < w.heap.size + 1 := by omega
      have hb2 : b < w.heap.size + 1 + 1 := by omega
      obtain ⟨g1, g2, g3, g4, g5⟩ := y.lts (b := b) (by simp; omega)
      obtain ⟨k1, k2, k3, k4, k5⟩ := x.lts g1
      have hmem := getD_mem (l := e.kids) (i := j) (by rw [HL.out]; exact hlt)
      have C1 : Hid (∀ W, Below w.heap.size w W → Calls Tryd.prog 14 #[.agg #[.int .i64 (e.kids.getD j Ex.z).op, .int .i64 (e.kids.getD j Ex.z).ty, .int .i64 (e.kids.getD j Ex.z).num, .string (e.kids.getD j Ex.z).text, .int .i64 (e.kids.getD j Ex.z).col, .slice aj lenj capj], .slice ra rlen rcap] W fun r w' => r = .returned (.agg #[.int .i64 (evalE (e.kids.getD j Ex.z) row).k, .int .i64 (evalE (e.kids.getD j Ex.z) row).n, .string (evalE (e.kids.getD j Ex.z) row).s]) ∧ Cls W w') := Lib.hid (fun W hW => HI.out _ hmem aj lenj capj ok ra rlen rcap row W (kj.later hW) fj (HM.out.kid _ hmem) (HR.out.later hW))
      have HT := Lib.hid (take_mapV (l := e.kids) (j := j) row (by rw [HL.out]; exact hlt))
      clear fj kj hmem
      generalize evalE (e.kids.getD j Ex.z) row = vj at C1 HT
      generalize e.kids.getD j Ex.z = ej at *
      go_wp2_with (first | (go_at_call 14; ((with_reducible refine (C1.out _ ?_).mono ?_); (· (repeat first | with_reducible exact Below.refl _ _ | with_reducible assumption | with_reducible refine Below.setCell ?_ (by first | omega | (simp; done) | (simp; omega)) _ | with_reducible refine Below.alloc ?_ (by first | omega | (simp; done) | (simp; omega)) _ | with_reducible refine Below.drew ?_ | with_reducible refine Ext.on _ ?_ (by first | omega | (simp; done) | (simp; omega)))); rintro e1 _ ⟨rfl, t, rfl⟩; have ts := t.size)) | (at_builtin; refine wpList_append_own_at _ rfl _ _ 32 rfl y.val.heap.size 39 i0 (.agg #[.int .i64 0, .int .i64 0, .string ⟨#[]⟩]) 3 32 Tryd.underlying32 hi hz0 hz1 hz2 rfl (by decide) _ vs.length (flatV vs) rfl (ownV_later HO.out (by repeat first | with_reducible exact Below.refl _ _ | with_reducible assumption | with_reducible refine Below.setCell ?_ (by first | omega | (simp; done) | (simp; omega)) _ | with_reducible refine Below.alloc ?_ (by first | omega | (simp; done) | (simp; omega)) _ | with_reducible refine Below.drew ?_ | with_reducible refine Ext.on _ ?_ (by first | omega | (simp; done) | (simp; omega)))) ⟨t.val.heap.size, 0, none⟩ 1 1 (Vl.cells vj) rfl rfl (cells_new _ _ _) (Vl.one _) (by have := HVL.out; unfold maxLen; omega) (by have := HVL.out; omega) (by have := t.size; simp at this ⊢; omega) ?_; intro v3 w3 hown3 hg3 _ hat3; have HO3 := Lib.hid hown3; have HG := Lib.hid hg3; have HA := Lib.hid hat3; clear hown3 hg3 hat3))
      go_roundw
      case rel =>
        refine ⟨j + 1, vs ++ [vj], Cls.of (Below.grown (w := t.val.alloc _) ?_ HG.out (by simp; omega) (fun k hk => by have := (HO.out.lt k hk).1; simp; omega)), by omega, by go_num, ?_, by rw [HVS.out, HT.out]⟩
        · repeat first | with_reducible exact Below.refl _ _ | with_reducible assumption | with_reducible refine Below.setCell ?_ (by first | omega | (simp; done) | (simp; omega)) _ | with_reducible refine Below.alloc ?_ (by first | omega | (simp; done) | (simp; omega)) _ | with_reducible refine Below.drew ?_ | with_reducible refine Ext.on _ ?_ (by first | omega | (simp; done) | (simp; omega))
        · rw [List.length_append, flatV_append]; simpa [flatV] using HO3.out
      case measure => simp [intOf]; omega
    · have hj2 : vs.length = 2 := by have := HVL.out; have := H2.out; omega
      have hvs2 : vs = e.kids.map (evalE · row) := by rw [HVS.out, List.take_of_length_le (by rw [HL.out]; omega)]
      obtain ⟨a3, cap3, hu, hrow⟩ := rowIs_of HO.out (by rw [hvs2]; exact HS.out)
      rw [← hvs2] at HV
      rw [hj2] at hu hrow
      obtain ⟨_, hlc, hcm, hsv, hcells⟩ := hrow
      obtain ⟨b, off, rfl, hb, hc⟩ := hcells.resolve_left (by omega)
      obtain ⟨p0, p1, p2⟩ := hc 0 (by omega)
      have hs0 := getD_size hsv 0
      simp only [Nat.zero_mul, Nat.add_zero] at p0 p1 p2
      obtain ⟨q0, q1, q2⟩ := hc 1 (by omega)
      have hs1 := getD_size hsv 1
      simp only [Nat.one_mul, Nat.add_assoc, Nat.reduceAdd] at q0 q1 q2
      clear hc hcells hsv hvs2 HVS HO HVL
      generalize vs.getD 0 Vl.z = v0 at *
      generalize vs.getD 1 Vl.z = v1 at *
      subst hu
      unfold maxLen at hcm
      have CX : Hid (∀ W, Below w.heap.size w W → Calls Tryd.prog 42 #[.int .i64 9, .agg #[.int .i64 (v0).k, .int .i64 (v0).n, .string (v0).s], .agg #[.int .i64 (v1).k, .int .i64 (v1).n, .string (v1).s]] W fun r w' => r = .returned (.agg #[.int .i64 (v).k, .int .i64 (v).n, .string (v).s]) ∧ Cls W w') := Lib.hid (fun W _ => by rw [HV.out, show biV 9 v0 v1 = arV3 9 v0 v1 from rfl]; exact rArith_calls 9 _ _ _ _ _ _ W hs0 hs1)
      have hlt2 : decide ((j : Int) < (len : Int)) = false := by simp; omega
      go_wp2_with fail
      refine wp_region_ext_tail 9 (by kernel_rfl) (by kernel_rfl) ?_
      simp only [List.take_succ_cons, List.take_zero, List.drop_succ_cons, List.drop_zero]
      repeat (go_big_quiet_step (first | (go_at_call 42; exact Cls.call (CX.out _ (by repeat first | with_reducible exact Below.refl _ _ | with_reducible assumption | with_reducible refine Below.setCell ?_ (by first | omega | (simp; done) | (simp; omega)) _ | with_reducible refine Below.alloc ?_ (by first | omega | (simp; done) | (simp; omega)) _ | with_reducible refine Below.drew ?_ | with_reducible refine Ext.on _ ?_ (by first | omega | (simp; done) | (simp; omega)))))))
      refine wpQuiet_nil ?_
      rintro _ ⟨t, rfl⟩
      obtain ⟨t1, t2, t3, t4, t5⟩ := t.lts n1
      go_wp2_with fail
      have z0 : (y.val.cell? ⟨w.heap.size + 1, 0, none⟩).isSome = true := by rw [y.cell 0 (by simp)]; simp [go_sem]
      have z1 : (y.val.cell? ⟨w.heap.size + 1, 1, none⟩).isSome = true := by rw [y.cell 1 (by simp)]; simp [go_sem]
      have z2 : (y.val.cell? ⟨w.heap.size + 1, 2, none⟩).isSome = true := by rw [y.cell 2 (by simp)]; simp [go_sem]
      have c0 : (t.val.cell? ⟨w.heap.size + 1, 0, none⟩).isSome = true := by rw [t.cell 0 n1, x.cell 0 m1]; exact z0
      have c1 : (t.val.cell? ⟨w.heap.size + 1, 1, none⟩).isSome = true := by rw [t.cell 1 n1, x.cell 1 m1]; exact z1
      have c2 : (t.val.cell? ⟨w.heap.size + 1, 2, none⟩).isSome = true := by rw [t.cell 2 n1, x.cell 2 m1]; exact z2
      refine ret_ex rfl ?_
      simp [results, Tryd.results14, go_sem, c0, c1, c2]
      refine Cls.of ?_
      repeat first | with_reducible exact Below.refl _ _ | with_reducible assumption | with_reducible refine Below.setCell ?_ (by first | omega | (simp; done) | (simp; omega)) _ | with_reducible refine Below.alloc ?_ (by first | omega | (simp; done) | (simp; omega)) _ | with_reducible refine Below.drew ?_ | with_reducible refine Ext.on _ ?_ (by first | omega | (simp; done) | (simp; omega))
set_option maxRecDepth 20000 in
set_option maxHeartbeats 4000000 in
theorem reval_10 (e : Ex) (ih : ∀ k ∈ e.kids, REvalOf k) (a : Option Addr) (len cap : Nat) (ok : Nat → Prop) (ra : Option Addr) (rlen rcap : Nat) (row : List Vl) (w : World) (hk : Kids w ok a len cap e.kids) (hsl : Slim e) (hr : RowIs w ra rlen rcap row) (hop : e.op = 10) (hl : len = 2) (hs : ∀ v ∈ e.kids.map (evalE · row), v.s.size ≤ maxLen) (v : Vl) (hv : v = biV 10 ((e.kids.map (evalE · row)).getD 0 Vl.z) ((e.kids.map (evalE · row)).getD 1 Vl.z)) :
    Calls Tryd.prog 14 #[.agg #[.int .i64 10, .int .i64 e.ty, .int .i64 e.num, .string e.text, .int .i64 e.col, .slice a len cap], .slice ra rlen rcap] w fun r w' => r = .returned (.agg #[.int .i64 (v).k, .int .i64 (v).n, .string (v).s]) ∧ Cls w w' := by
  obtain ⟨i0, hi, hz0, hz1, hz2⟩ := info_parts infoVl
  have hlen := hk.len_eq
  have hle := hk.le
  have hmax := hk.max
  have h12 := hsl.le
  unfold maxLen at hmax
  have HL := Lib.hid hlen
  have hl12 : len ≤ 12 := by omega
  have HV := Lib.hid hv
  have HS := Lib.hid hs
  have HR := Lib.hid hr
  have HK := Lib.hid hk
  have HI := Lib.hid ih
  have HM := Lib.hid hsl
  have CK : Hid (∀ W, Below w.heap.size w W → Calls Tryd.prog 41 #[.int .i64 10, .int .i64 (len : Nat)] W fun r w' => r = .returned (.bool true) ∧ Cls W w') := Lib.hid (fun W _ => by
    have := rkids_calls 10 len W (by omega) (by omega)
    rw [show takesO 10 len = true by rw [hl]; rfl] at this
    exact this)
  have H2 := Lib.hid hl
  clear hlen h12 hv hs hr hk ih hsl hop hl
  go_enter Tryd.func14, Tryd.ntmps14
  go_wp2_with ((go_at_call 41; ((with_reducible refine (CK.out _ ?_).mono ?_); (· (repeat first | with_reducible exact Below.refl _ _ | with_reducible assumption | with_reducible refine Below.setCell ?_ (by first | omega | (simp; done) | (simp; omega)) _ | with_reducible refine Below.alloc ?_ (by first | omega | (simp; done) | (simp; omega)) _ | with_reducible refine Below.drew ?_ | with_reducible refine Ext.on _ ?_ (by first | omega | (simp; done) | (simp; omega)))); rintro e1 _ ⟨rfl, y, rfl⟩; obtain ⟨l1, l2, l3, l4, l5⟩ := y.lts (b := w.heap.size) (by simp; omega); obtain ⟨m1, m2, m3, m4, m5⟩ := y.lts (b := w.heap.size + 1) (by simp); have ys := y.size; simp at ys)))
  go_loopw [5, 6] (fun u i wr => ∃ (j : Nat) (vs : List Vl), Cls y.val wr ∧ j ≤ len ∧ i = .int .i64 j ∧ wr.ownsRow y.val.heap.size 39 3 u vs.length (flatV vs) ∧ vs = (e.kids.take j).map (evalE · row)) (fun _ i _ => len - (intOf i).toNat)
  case atStart => exact ⟨0, [], Cls.of (Below.refl _ _), Nat.zero_le _, rfl, World.ownsRow_nil _ _ _ 3, rfl⟩
  case round =>
    obtain ⟨j, vs, ⟨x, rfl⟩, hj, rfl, hrow, hvs⟩ := hrel
    have hvl : vs.length = j := by rw [hvs, List.length_map, List.length_take, HL.out]; omega
    have HO := Lib.hid hrow
    have HVS := Lib.hid hvs
    have HVL := Lib.hid hvl
    clear hrow hvs hvl
    have xs := x.size
    obtain ⟨x1, x2, x3, x4, x5⟩ := x.lts l1
    obtain ⟨n1, n2, n3, n4, n5⟩ := x.lts m1
    by_cases hlt : j < len
    · obtain ⟨aj, lenj, capj, ⟨b, off, rfl, hb, _, q0, q1, q2, q3, q4, q5⟩, fj, kj⟩ := HK.out.at_ (i := j) hlt
      have hb1 : b < w.heap.size + 1 := by omega
      have hb2 : b < w.heap.size + 1 + 1 := by omega
      obtain ⟨g1, g2, g3, g4, g5⟩ := y.lts (b := b) (by simp; omega)
      obtain ⟨k1, k2, k3, k4, k5⟩ := x.lts g1
      have hmem := getD_mem (l := e.kids) (i := j) (by rw [HL.out]; exact hlt)
      have C1 : Hid (∀ W, Below w.heap.size w W → Calls Tryd.prog 14 #[.agg #[.int .i64 (e.kids.getD j Ex.z).op, .int .i64 (e.kids.getD j Ex.z).ty, .int .i64 (e.kids.getD j Ex.z).num, .string (e.kids.getD j Ex.z).text, .int .i64 (e.kids.getD j Ex.z).col, .slice aj lenj capj], .slice ra rlen rcap] W fun r w' => r = .returned (.agg #[.int .i64 (evalE (e.kids.getD j Ex.z) row).k, .int .i64 (evalE (e.kids.getD j Ex.z) row).n, .string (evalE (e.kids.getD j Ex.z) row).s]) ∧ Cls W w') := Lib.hid (fun W hW => HI.out _ hmem aj lenj capj ok ra rlen rcap row W (kj.later hW) fj (HM.out.kid _ hmem) (HR.out.later hW))
      have HT := Lib.hid (take_mapV (l := e.kids) (j := j) row (by rw [HL.out]; exact hlt))
      clear fj kj hmem
      generalize evalE (e.kids.getD j Ex.z) row = vj at C1 HT
      generalize e.kids.getD j Ex.z = ej at *
      go_wp2_with (first | (go_at_call 14; ((with_reducible refine (C1.out _ ?_).mono ?_); (· (repeat first | with_reducible exact Below.refl _ _ | with_reducible assumption | with_reducible refine Below.setCell ?_ (by first | omega | (simp; done) | (simp; omega)) _ | with_reducible refine Below.alloc ?_ (by first | omega | (simp; done) | (simp; omega)) _ | with_reducible refine Below.drew ?_ | with_reducible refine Ext.on _ ?_ (by first | omega | (simp; done) | (simp; omega)))); rintro e1 _ ⟨rfl, t, rfl⟩; have ts := t.size)) | (at_builtin; refine wpList_append_own_at _ rfl _ _ 32 rfl y.val.heap.size 39 i0 (.agg #[.int .i64 0, .int .i64 0, .string ⟨#[]⟩]) 3 32 Tryd.underlying32 hi hz0 hz1 hz2 rfl (by decide) _ vs.length (flatV vs) rfl (ownV_later HO.out (by repeat first | with_reducible exact Below.refl _ _ | with_reducible assumption | with_reducible refine Below.setCell ?_ (by first | omega | (simp; done) | (simp; omega)) _ | with_reducible refine Below.alloc ?_ (by first | omega | (simp; done) | (simp; omega)) _ | with_reducible refine Below.drew ?_ | with_reducible refine Ext.on _ ?_ (by first | omega | (simp; done) | (simp; omega)))) ⟨t.val.heap.size, 0, none⟩ 1 1 (Vl.cells vj) rfl rfl (cells_new _ _ _) (Vl.one _) (by have := HVL.out; unfold maxLen; omega) (by have := HVL.out; omega) (by have := t.size; simp at this ⊢; omega) ?_; intro v3 w3 hown3 hg3 _ hat3; have HO3 := Lib.hid hown3; have HG := Lib.hid hg3; have HA := Lib.hid hat3; clear hown3 hg3 hat3))
      go_roundw
      case rel =>
        refine ⟨j + 1, vs ++ [vj], Cls.of (Below.grown (w := t.val.alloc _) ?_ HG.out (by simp; omega) (fun k hk => by have := (HO.out.lt k hk).1; simp; omega)), by omega, by go_num, ?_, by rw [HVS.out, HT.out]⟩
        · repeat first | with_reducible exact Below.refl _ _ | with_reducible assumption | with_reducible refine Below.setCell ?_ (by first | omega | (simp; done) | (simp; omega)) _ | with_reducible refine Below.alloc ?_ (by first | omega | (simp; done) | (simp; omega)) _ | with_reducible refine Below.drew ?_ | with_reducible refine Ext.on _ ?_ (by first | omega | (simp; done) | (simp; omega))
        · rw [List.length_append, flatV_append]; simpa [flatV] using HO3.out
      case measure => simp [intOf]; omega
    · have hj2 : vs.length = 2 := by have := HVL.out; have := H2.out; omega
      have hvs2 : vs = e.kids.map (evalE · row) := by rw [HVS.out, List.take_of_length_le (by rw [HL.out]; omega)]
      obtain ⟨a3, cap3, hu, hrow⟩ := rowIs_of HO.out (by rw [hvs2]; exact HS.out)
      rw [← hvs2] at HV
      rw [hj2] at hu hrow
      obtain ⟨_, hlc, hcm, hsv, hcells⟩ := hrow
      obtain ⟨b, off, rfl, hb, hc⟩ := hcells.resolve_left (by omega)
      obtain ⟨p0, p1, p2⟩ := hc 0 (by omega)
      have hs0 := getD_size hsv 0
      simp only [Nat.zero_mul, Nat.add_zero] at p0 p1 p2
      obtain ⟨q0, q1, q2⟩ := hc 1 (by omega)
      have hs1 := getD_size hsv 1
      simp only [Nat.one_mul, Nat.add_assoc, Nat.reduceAdd] at q0 q1 q2
      clear hc hcells hsv hvs2 HVS HO HVL
      generalize vs.getD 0 Vl.z = v0 at *
      generalize vs.getD 1 Vl.z = v1 at *
      subst hu
      unfold maxLen at hcm
      have CX : Hid (∀ W, Below w.heap.size w W → Calls Tryd.prog 42 #[.int .i64 10, .agg #[.int .i64 (v0).k, .int .i64 (v0).n, .string (v0).s], .agg #[.int .i64 (v1).k, .int .i64 (v1).n, .string (v1).s]] W fun r w' => r = .returned (.agg #[.int .i64 (v).k, .int .i64 (v).n, .string (v).s]) ∧ Cls W w') := Lib.hid (fun W _ => by rw [HV.out, show biV 10 v0 v1 = arV3 10 v0 v1 from rfl]; exact rArith_calls 10 _ _ _ _ _ _ W hs0 hs1)
      have hlt2 : decide ((j : Int) < (len : Int)) = false := by simp; omega
      go_wp2_with fail
      refine wp_region_ext_tail 9 (by kernel_rfl) (by kernel_rfl) ?_
      simp only [List.take_succ_cons, List.take_zero, List.drop_succ_cons, List.drop_zero]
      repeat (go_big_quiet_step (first | (go_at_call 42; exact Cls.call (CX.out _ (by repeat first | with_reducible exact Below.refl _ _ | with_reducible assumption | with_reducible refine Below.setCell ?_ (by first | omega | (simp; done) | (simp; omega)) _ | with_reducible refine Below.alloc ?_ (by first | omega | (simp; done) | (simp; omega)) _ | with_reducible refine Below.drew ?_ | with_reducible refine Ext.on _ ?_ (by first | omega | (simp; done) | (simp; omega)))))))
      refine wpQuiet_nil ?_
      rintro _ ⟨t, rfl⟩
      obtain ⟨t1, t2, t3, t4, t5⟩ := t.lts n1
      go_wp2_with fail
      have z0 : (y.val.cell? ⟨w.heap.size + 1, 0, none⟩).isSome = true := by rw [y.cell 0 (by simp)]; simp [go_sem]
      have z1 : (y.val.cell? ⟨w.heap.size + 1, 1, none⟩).isSome = true := by rw [y.cell 1 (by simp)]; simp [go_sem]
      have z2 : (y.val.cell? ⟨w.heap.size + 1, 2, none⟩).isSome = true := by rw [y.cell 2 (by simp)]; simp [go_sem]
      have c0 : (t.val.cell? ⟨w.heap.size + 1, 0, none⟩).isSome = true := by rw [t.cell 0 n1, x.cell 0 m1]; exact z0
      have c1 : (t.val.cell? ⟨w.heap.size + 1, 1, none⟩).isSome = true := by rw [t.cell 1 n1, x.cell 1 m1]; exact z1
      have c2 : (t.val.cell? ⟨w.heap.size + 1, 2, none⟩).isSome = true := by rw [t.cell 2 n1, x.cell 2 m1]; exact z2
      refine ret_ex rfl ?_
      simp [results, Tryd.results14, go_sem, c0, c1, c2]
      refine Cls.of ?_
      repeat first | with_reducible exact Below.refl _ _ | with_reducible assumption | with_reducible refine Below.setCell ?_ (by first | omega | (simp; done) | (simp; omega)) _ | with_reducible refine Below.alloc ?_ (by first | omega | (simp; done) | (simp; omega)) _ | with_reducible refine Below.drew ?_ | with_reducible refine Ext.on _ ?_ (by first | omega | (simp; done) | (simp; omega))
set_option maxRecDepth 20000 in
set_option maxHeartbeats 4000000 in
theorem reval_12 (e : Ex) (ih : ∀ k ∈ e.kids, REvalOf k) (a : Option Addr) (len cap : Nat) (ok : Nat → Prop) (ra : Option Addr) (rlen rcap : Nat) (row : List Vl) (w : World) (hk : Kids w ok a len cap e.kids) (hsl : Slim e) (hr : RowIs w ra rlen rcap row) (hop : e.op = 12) (hl : len = 2) (hs : ∀ v ∈ e.kids.map (evalE · row), v.s.size ≤ maxLen) (v : Vl) (hv : v = biV 12 ((e.kids.map (evalE · row)).getD 0 Vl.z) ((e.kids.map (evalE · row)).getD 1 Vl.z)) :
    Calls Tryd.prog 14 #[.agg #[.int .i64 12, .int .i64 e.ty, .int .i64 e.num, .string e.text, .int .i64 e.col, .slice a len cap], .slice ra rlen rcap] w fun r w' => r = .returned (.agg #[.int .i64 (v).k, .int .i64 (v).n, .string (v).s]) ∧ Cls w w' := by
  obtain ⟨i0, hi, hz0, hz1, hz2⟩ := info_parts infoVl
  have hlen := hk.len_eq
  have hle := hk.le
  have hmax := hk.max
  have h12 := hsl.le
  unfold maxLen at hmax
  have HL := Lib.hid hlen
  have hl12 : len ≤ 12 := by omega
  have HV := Lib.hid hv
  have HS := Lib.hid hs
  have HR := Lib.hid hr
  have HK := Lib.hid hk
  have HI := Lib.hid ih
  have HM := Lib.hid hsl
  have CK : Hid (∀ W, Below w.heap.size w W → Calls Tryd.prog 41 #[.int .i64 12, .int .i64 (len : Nat)] W fun r w' => r = .returned (.bool true) ∧ Cls W w') := Lib.hid (fun W _ => by
    have := rkids_calls 12 len W (by omega) (by omega)
    rw [show takesO 12 len = true by rw [hl]; rfl] at this
    exact this)
  have H2 := Lib.hid hl
  clear hlen h12 hv hs hr hk ih hsl hop hl
  go_enter Tryd.func14, Tryd.ntmps14
  go_wp2_with ((go_at_call 41; ((with_reducible refine (CK.out _ ?_).mono ?_); (· (repeat first | with_reducible exact Below.refl _ _ | with_reducible assumption | with_reducible refine Below.setCell ?_ (by first | omega | (simp; done) | (simp; omega)) _ | with_reducible refine Below.alloc ?_ (by first | omega | (simp; done) | (simp; omega)) _ | with_reducible refine Below.drew ?_ | with_reducible refine Ext.on _ ?_ (by first | omega | (simp; done) | (simp; omega)))); rintro e1 _ ⟨rfl, y, rfl⟩; obtain ⟨l1, l2, l3, l4, l5⟩ := y.lts (b := w.heap.size) (by simp; omega); obtain ⟨m1, m2, m3, m4, m5⟩ := y.lts (b := w.heap.size + 1) (by simp); have ys := y.size; simp at ys)))
  go_loopw [5, 6] (fun u i wr => ∃ (j : Nat) (vs : List Vl), Cls y.val wr ∧ j ≤ len ∧ i = .int .i64 j ∧ wr.ownsRow y.val.heap.size 39 3 u vs.length (flatV vs) ∧ vs = (e.kids.take j).map (evalE · row)) (fun _ i _ => len - (intOf i).toNat)
  case atStart => exact ⟨0, [], Cls.of (Below.refl _ _), Nat.zero_le _, rfl, World.ownsRow_nil _ _ _ 3, rfl⟩
  case round =>
    obtain ⟨j, vs, ⟨x, rfl⟩, hj, rfl, hrow, hvs⟩ := hrel
    have hvl : vs.length = j := by rw [hvs, List.length_map, List.length_take, HL.out]; omega
    have HO := Lib.hid hrow
    have HVS := Lib.hid hvs
    have HVL := Lib.hid hvl
    clear hrow hvs hvl
    have xs := x.size
    obtain ⟨x1, x2, x3, x4, x5⟩ := x.lts l1
    obtain ⟨n1, n2, n3, n4, n5⟩ := x.lts m1
    by_cases hlt : j < len
    · obtain ⟨aj, lenj, capj, ⟨b, off, rfl, hb, _, q0, q1, q2, q3, q4, q5⟩, fj, kj⟩ := HK.out.at_ (i := j) hlt
      have hb1 : b < w.heap.size + 1 := by omega
      have hb2 : b < w.heap.size + 1 + 1 := by omega
      obtain ⟨g1, g2, g3, g4, g5⟩ := y.lts (b := b) (by simp; omega)
      obtain ⟨k1, k2, k3, k4, k5⟩ := x.lts g1
      have hmem := getD_mem (l := e.kids) (i := j) (by rw [HL.out]; exact hlt)
      have C1 : Hid (∀ W, Below w.heap.size w W → Calls Tryd.prog 14 #[.agg #[.int .i64 (e.kids.getD j Ex.z).op, .int .i64 (e.kids.getD j Ex.z).ty, .int .i64 (e.kids.getD j Ex.z).num, .string (e.kids.getD j Ex.z).text, .int .i64 (e.kids.getD j Ex.z).col, .slice aj lenj capj], .slice ra rlen rcap] W fun r w' => r = .returned (.agg #[.int .i64 (evalE (e.kids.getD j Ex.z) row).k, .int .i64 (evalE (e.kids.getD j Ex.z) row).n, .string (evalE (e.kids.getD j Ex.z) row).s]) ∧ Cls W w') := Lib.hid (fun W hW => HI.out _ hmem aj lenj capj ok ra rlen rcap row W (kj.later hW) fj (HM.out.kid _ hmem) (HR.out.later hW))
      have HT := Lib.hid (take_mapV (l := e.kids) (j := j) row (by rw [HL.out]; exact hlt))
      clear fj kj hmem
      generalize evalE (e.kids.getD j Ex.z) row = vj at C1 HT
      generalize e.kids.getD j Ex.z = ej at *
      go_wp2_with (first | (go_at_call 14; ((with_reducible refine (C1.out _ ?_).mono ?_); (· (repeat first | with_reducible exact Below.refl _ _ | with_reducible assumption | with_reducible refine Below.setCell ?_ (by first | omega | (simp; done) | (simp; omega)) _ | with_reducible refine Below.alloc ?_ (by first | omega | (simp; done) | (simp; omega)) _ | with_reducible refine Below.drew ?_ | with_reducible refine Ext.on _ ?_ (by first | omega | (simp; done) | (simp; omega)))); rintro e1 _ ⟨rfl, t, rfl⟩; have ts := t.size)) | (at_builtin; refine wpList_append_own_at _ rfl _ _ 32 rfl y.val.heap.size 39 i0 (.agg #[.int .i64 0, .int .i64 0, .string ⟨#[]⟩]) 3 32 Tryd.underlying32 hi hz0 hz1 hz2 rfl (by decide) _ vs.length (flatV vs) rfl (ownV_later HO.out (by repeat first | with_reducible exact Below.refl _ _ | with_reducible assumption | with_reducible refine Below.setCell ?_ (by first | omega | (simp; done) | (simp; omega)) _ | with_reducible refine Below.alloc ?_ (by first | omega | (simp; done) | (simp; omega)) _ | with_reducible refine Below.drew ?_ | with_reducible refine Ext.on _ ?_ (by first | omega | (simp; done) | (simp; omega)))) ⟨t.val.heap.size, 0, none⟩ 1 1 (Vl.cells vj) rfl rfl (cells_new _ _ _) (Vl.one _) (by have := HVL.out; unfold maxLen; omega) (by have := HVL.out; omega) (by have := t.size; simp at this ⊢; omega) ?_; intro v3 w3 hown3 hg3 _ hat3; have HO3 := Lib.hid hown3; have HG := Lib.hid hg3; have HA := Lib.hid hat3; clear hown3 hg3 hat3))
      go_roundw
      case rel =>
        refine ⟨j + 1, vs ++ [vj], Cls.of (Below.grown (w := t.val.alloc _) ?_ HG.out (by simp; omega) (fun k hk => by have := (HO.out.lt k hk).1; simp; omega)), by omega, by go_num, ?_, by rw [HVS.out, HT.out]⟩
        · repeat first | with_reducible exact Below.refl _ _ | with_reducible assumption | with_reducible refine Below.setCell ?_ (by first | omega | (simp; done) | (simp; omega)) _ | with_reducible refine Below.alloc ?_ (by first | omega | (simp; done) | (simp; omega)) _ | with_reducible refine Below.drew ?_ | with_reducible refine Ext.on _ ?_ (by first | omega | (simp; done) | (simp; omega))
        · rw [List.length_append, flatV_append]; simpa [flatV] using HO3.out
      case measure => simp [intOf]; omega
    · have hj2 : vs.length = 2 := by have := HVL.out; have := H2.out; omega
      have hvs2 : vs = e.kids.map (evalE · row) := by rw [HVS.out, List.take_of_length_le (by rw [HL.out]; omega)]
      obtain ⟨a3, cap3, hu, hrow⟩ := rowIs_of HO.out (by rw [hvs2]; exact HS.out)
      rw [← hvs2] at HV
      rw [hj2] at hu hrow
      obtain ⟨_, hlc, hcm, hsv, hcells⟩ := hrow
      obtain ⟨b, off, rfl, hb, hc⟩ := hcells.resolve_left (by omega)
      obtain ⟨p0, p1, p2⟩ := hc 0 (by omega)
      have hs0 := getD_size hsv 0
      simp only [Nat.zero_mul, Nat.add_zero] at p0 p1 p2
      obtain ⟨q0, q1, q2⟩ := hc 1 (by omega)
      have hs1 := getD_size hsv 1
      simp only [Nat.one_mul, Nat.add_assoc, Nat.reduceAdd] at q0 q1 q2
      clear hc hcells hsv hvs2 HVS HO HVL
      generalize vs.getD 0 Vl.z = v0 at *
      generalize vs.getD 1 Vl.z = v1 at *
      subst hu
      unfold maxLen at hcm
      have CX : Hid (∀ W, Below w.heap.size w W → Calls Tryd.prog 42 #[.int .i64 12, .agg #[.int .i64 (v0).k, .int .i64 (v0).n, .string (v0).s], .agg #[.int .i64 (v1).k, .int .i64 (v1).n, .string (v1).s]] W fun r w' => r = .returned (.agg #[.int .i64 (v).k, .int .i64 (v).n, .string (v).s]) ∧ Cls W w') := Lib.hid (fun W _ => by rw [HV.out, show biV 12 v0 v1 = arV3 12 v0 v1 from rfl]; exact rArith_calls 12 _ _ _ _ _ _ W hs0 hs1)
      have hlt2 : decide ((j : Int) < (len : Int)) = false := by simp; omega
      go_wp2_with fail
      refine wp_region_ext_tail 9 (by kernel_rfl) (by kernel_rfl) ?_
      simp only [List.take_succ_cons, List.take_zero, List.drop_succ_cons, List.drop_zero]
      repeat (go_big_quiet_step (first | (go_at_call 42; exact Cls.call (CX.out _ (by repeat first | with_reducible exact Below.refl _ _ | with_reducible assumption | with_reducible refine Below.setCell ?_ (by first | omega | (simp; done) | (simp; omega)) _ | with_reducible refine Below.alloc ?_ (by first | omega | (simp; done) | (simp; omega)) _ | with_reducible refine Below.drew ?_ | with_reducible refine Ext.on _ ?_ (by first | omega | (simp; done) | (simp; omega)))))))
      refine wpQuiet_nil ?_
      rintro _ ⟨t, rfl⟩
      obtain ⟨t1, t2, t3, t4, t5⟩ := t.lts n1
      go_wp2_with fail
      have z0 : (y.val.cell? ⟨w.heap.size + 1, 0, none⟩).isSome = true := by rw [y.cell 0 (by simp)]; simp [go_sem]
      have z1 : (y.val.cell? ⟨w.heap.size + 1, 1, none⟩).isSome = true := by rw [y.cell 1 (by simp)]; simp [go_sem]
      have z2 : (y.val.cell? ⟨w.heap.size + 1, 2, none⟩).isSome = true := by rw [y.cell 2 (by simp)]; simp [go_sem]
      have c0 : (t.val.cell? ⟨w.heap.size + 1, 0, none⟩).isSome = true := by rw [t.cell 0 n1, x.cell 0 m1]; exact z0
      have c1 : (t.val.cell? ⟨w.heap.size + 1, 1, none⟩).isSome = true := by rw [t.cell 1 n1, x.cell 1 m1]; exact z1
      have c2 : (t.val.cell? ⟨w.heap.size + 1, 2, none⟩).isSome = true := by rw [t.cell 2 n1, x.cell 2 m1]; exact z2
      refine ret_ex rfl ?_
      simp [results, Tryd.results14, go_sem, c0, c1, c2]
      refine Cls.of ?_
      repeat first | with_reducible exact Below.refl _ _ | with_reducible assumption | with_reducible refine Below.setCell ?_ (by first | omega | (simp; done) | (simp; omega)) _ | with_reducible refine Below.alloc ?_ (by first | omega | (simp; done) | (simp; omega)) _ | with_reducible refine Below.drew ?_ | with_reducible refine Ext.on _ ?_ (by first | omega | (simp; done) | (simp; omega))
set_option maxRecDepth 20000 in
set_option maxHeartbeats 4000000 in
theorem reval_20 (e : Ex) (ih : ∀ k ∈ e.kids, REvalOf k) (a : Option Addr) (len cap : Nat) (ok : Nat → Prop) (ra : Option Addr) (rlen rcap : Nat) (row : List Vl) (w : World) (hk : Kids w ok a len cap e.kids) (hsl : Slim e) (hr : RowIs w ra rlen rcap row) (hop : e.op = 20) (hl : len = 2) (hs : ∀ v ∈ e.kids.map (evalE · row), v.s.size ≤ maxLen) (v : Vl) (hv : v = biV 20 ((e.kids.map (evalE · row)).getD 0 Vl.z) ((e.kids.map (evalE · row)).getD 1 Vl.z)) :
    Calls Tryd.prog 14 #[.agg #[.int .i64 20, .int .i64 e.ty, .int .i64 e.num, .string e.text, .int .i64 e.col, .slice a len cap], .slice ra rlen rcap] w fun r w' => r = .returned (.agg #[.int .i64 (v).k, .int .i64 (v).n, .string (v).s]) ∧ Cls w w' := by
  obtain ⟨i0, hi, hz0, hz1, hz2⟩ := info_parts infoVl
  have hlen := hk.len_eq
  have hle := hk.le
  have hmax := hk.max
  have h12 := hsl.le
  unfold maxLen at hmax
  have HL := Lib.hid hlen
  have hl12 : len ≤ 12 := by omega
  have HV := Lib.hid hv
  have HS := Lib.hid hs
  have HR := Lib.hid hr
  have HK := Lib.hid hk
  have HI := Lib.hid ih
  have HM := Lib.hid hsl
  have CK : Hid (∀ W, Below w.heap.size w W → Calls Tryd.prog 41 #[.int .i64 20, .int .i64 (len : Nat)] W fun r w' => r = .returned (.bool true) ∧ Cls W w') := Lib.hid (fun W _ => by
    have := rkids_calls 20 len W (by omega) (by omega)
    rw [show takesO 20 len = true by rw [hl]; rfl] at this
    exact this)
  have H2 := Lib.hid hl
  clear hlen h12 hv hs hr hk ih hsl hop hl
  go_enter Tryd.func14, Tryd.ntmps14
  go_wp2_with ((go_at_call 41; ((with_reducible refine (CK.out _ ?_).mono ?_); (· (repeat first | with_reducible exact Below.refl _ _ | with_reducible assumption | with_reducible refine Below.setCell ?_ (by first | omega | (simp; done) | (simp; omega)) _ | with_reducible refine Below.alloc ?_ (by first | omega | (simp; done) | (simp; omega)) _ | with_reducible refine Below.drew ?_ | with_reducible refine Ext.on _ ?_ (by first | omega | (simp; done) | (simp; omega)))); rintro e1 _ ⟨rfl, y, rfl⟩; obtain ⟨l1, l2, l3, l4, l5⟩ := y.lts (b := w.heap.size) (by simp; omega); obtain ⟨m1, m2, m3, m4, m5⟩ := y.lts (b := w.heap.size + 1) (by simp); have ys := y.size; simp at ys)))
  go_loopw [5, 6] (fun u i wr => ∃ (j : Nat) (vs : List Vl), Cls y.val wr ∧ j ≤ len ∧ i = .int .i64 j ∧ wr.ownsRow y.val.heap.size 39 3 u vs.length (flatV vs) ∧ vs = (e.kids.take j).map (evalE · row)) (fun _ i _ => len - (intOf i).toNat)
  case atStart => exact ⟨0, [], Cls.of (Below.refl _ _), Nat.zero_le _, rfl, World.ownsRow_nil _ _ _ 3, rfl⟩
  case round =>
    obtain ⟨j, vs, ⟨x, rfl⟩, hj, rfl, hrow, hvs⟩ := hrel
    have hvl : vs.length = j := by rw [hvs, List.length_map, List.length_take, HL.out]; omega
    have HO := Lib.hid hrow
    have HVS := Lib.hid hvs
    have HVL := Lib.hid hvl
    clear hrow hvs hvl
    have xs := x.size
    obtain ⟨x1, x2, x3, x4, x5⟩ := x.lts l1
    obtain ⟨n1, n2, n3, n4, n5⟩ := x.lts m1
    by_cases hlt : j < len
    · obtain ⟨aj, lenj, capj, ⟨b, off, rfl, hb, _, q0, q1, q2, q3, q4, q5⟩, fj, kj⟩ := HK.out.at_ (i := j) hlt
      have hb1 : b < w.heap.size + 1 := by omega
      have hb2 : b < w.heap.size + 1 + 1 := by omega
      obtain ⟨g1, g2, g3, g4, g5⟩ := y.lts (b := b) (by simp; omega)
      obtain ⟨k1, k2, k3, k4, k5⟩ := x.lts g1
      have hmem := getD_mem (l := e.kids) (i := j) (by rw [HL.out]; exact hlt)
      have C1 : Hid (∀ W, Below w.heap.size w W → Calls Tryd.prog 14 #[.agg #[.int .i64 (e.kids.getD j Ex.z).op, .int .i64 (e.kids.getD j Ex.z).ty, .int .i64 (e.kids.getD j Ex.z).num, .string (e.kids.getD j Ex.z).text, .int .i64 (e.kids.getD j Ex.z).col, .slice aj lenj capj], .slice ra rlen rcap] W fun r w' => r = .returned (.agg #[.int .i64 (evalE (e.kids.getD j Ex.z) row).k, .int .i64 (evalE (e.kids.getD j Ex.z) row).n, .string (evalE (e.kids.getD j Ex.z) row).s]) ∧ Cls W w') := Lib.hid (fun W hW => HI.out _ hmem aj lenj capj ok ra rlen rcap row W (kj.later hW) fj (HM.out.kid _ hmem) (HR.out.later hW))
      have HT := Lib.hid (take_mapV (l := e.kids) (j := j) row (by rw [HL.out]; exact hlt))
      clear fj kj hmem
      generalize evalE (e.kids.getD j Ex.z) row = vj at C1 HT
      generalize e.kids.getD j Ex.z = ej at *
      go_wp2_with (first | (go_at_call 14; ((with_reducible refine (C1.out _ ?_).mono ?_); (· (repeat first | with_reducible exact Below.refl _ _ | with_reducible assumption | with_reducible refine Below.setCell ?_ (by first | omega | (simp; done) | (simp; omega)) _ | with_reducible refine Below.alloc ?_ (by first | omega | (simp; done) | (simp; omega)) _ | with_reducible refine Below.drew ?_ | with_reducible refine Ext.on _ ?_ (by first | omega | (simp; done) | (simp; omega)))); rintro e1 _ ⟨rfl, t, rfl⟩; have ts := t.size)) | (at_builtin; refine wpList_append_own_at _ rfl _ _ 32 rfl y.val.heap.size 39 i0 (.agg #[.int .i64 0, .int .i64 0, .string ⟨#[]⟩]) 3 32 Tryd.underlying32 hi hz0 hz1 hz2 rfl (by decide) _ vs.length (flatV vs) rfl (ownV_later HO.out (by repeat first | with_reducible exact Below.refl _ _ | with_reducible assumption | with_reducible refine Below.setCell ?_ (by first | omega | (simp; done) | (simp; omega)) _ | with_reducible refine Below.alloc ?_ (by first | omega | (simp; done) | (simp; omega)) _ | with_reducible refine Below.drew ?_ | with_reducible refine Ext.on _ ?_ (by first | omega | (simp; done) | (simp; omega)))) ⟨t.val.heap.size, 0, none⟩ 1 1 (Vl.cells vj) rfl rfl (cells_new _ _ _) (Vl.one _) (by have := HVL.out; unfold maxLen; omega) (by have := HVL.out; omega) (by have := t.size; simp at this ⊢; omega) ?_; intro v3 w3 hown3 hg3 _ hat3; have HO3 := Lib.hid hown3; have HG := Lib.hid hg3; have HA := Lib.hid hat3; clear hown3 hg3 hat3))
      go_roundw
      case rel =>
        refine ⟨j + 1, vs ++ [vj], Cls.of (Below.grown (w := t.val.alloc _) ?_ HG.out (by simp; omega) (fun k hk => by have := (HO.out.lt k hk).1; simp; omega)), by omega, by go_num, ?_, by rw [HVS.out, HT.out]⟩
        · repeat first | with_reducible exact Below.refl _ _ | with_reducible assumption | with_reducible refine Below.setCell ?_ (by first | omega | (simp; done) | (simp; omega)) _ | with_reducible refine Below.alloc ?_ (by first | omega | (simp; done) | (simp; omega)) _ | with_reducible refine Below.drew ?_ | with_reducible refine Ext.on _ ?_ (by first | omega | (simp; done) | (simp; omega))
        · rw [List.length_append, flatV_append]; simpa [flatV] using HO3.out
      case measure => simp [intOf]; omega
    · have hj2 : vs.length = 2 := by have := HVL.out; have := H2.out; omega
      have hvs2 : vs = e.kids.map (evalE · row) := by rw [HVS.out, List.take_of_length_le (by rw [HL.out]; omega)]
      obtain ⟨a3, cap3, hu, hrow⟩ := rowIs_of HO.out (by rw [hvs2]; exact HS.out)
      rw [← hvs2] at HV
      rw [hj2] at hu hrow
      obtain ⟨_, hlc, hcm, hsv, hcells⟩ := hrow
      obtain ⟨b, off, rfl, hb, hc⟩ := hcells.resolve_left (by omega)
      obtain ⟨p0, p1, p2⟩ := hc 0 (by omega)
      have hs0 := getD_size hsv 0
      simp only [Nat.zero_mul, Nat.add_zero] at p0 p1 p2
      obtain ⟨q0, q1, q2⟩ := hc 1 (by omega)
      have hs1 := getD_size hsv 1
      simp only [Nat.one_mul, Nat.add_assoc, Nat.reduceAdd] at q0 q1 q2
      clear hc hcells hsv hvs2 HVS HO HVL
      generalize vs.getD 0 Vl.z = v0 at *
      generalize vs.getD 1 Vl.z = v1 at *
      subst hu
      unfold maxLen at hcm
      obtain ⟨B, hB⟩ : ∃ B, B = sameB v0.k v0.n v0.s v1.k v1.n v1.s := ⟨_, rfl⟩
      have HB := Lib.hid hB
      clear hB
      have CX : Hid (∀ W, Below w.heap.size w W → Calls Tryd.prog 47 #[.agg #[.int .i64 (v0).k, .int .i64 (v0).n, .string (v0).s], .agg #[.int .i64 (v1).k, .int .i64 (v1).n, .string (v1).s]] W fun r w' => r = .returned (.bool B) ∧ Cls W w') := Lib.hid (fun W _ => by rw [HB.out]; exact rSame_calls _ _ _ _ _ _ W)
      have CN : Hid (∀ W, Below w.heap.size w W → Calls Tryd.prog 46 #[.bool B] W fun r w' => r = .returned (.agg #[.int .i64 (v).k, .int .i64 (v).n, .string (v).s]) ∧ Cls W w') := Lib.hid (fun W _ => by rw [HV.out, show biV 20 v0 v1 = ⟨2, b2i (sameB v0.k v0.n v0.s v1.k v1.n v1.s), ⟨#[]⟩⟩ from rfl, ← HB.out]; have h := rOf_calls B W; cases B <;> exact h)
      have hlt2 : decide ((j : Int) < (len : Int)) = false := by simp; omega
      go_wp2_with fail
      refine wp_region_ext_tail 8 (by kernel_rfl) (by kernel_rfl) ?_
      simp only [List.take_succ_cons, List.take_zero, List.drop_succ_cons, List.drop_zero]
      repeat (go_big_quiet_step (first | (go_at_call 47; exact Cls.call (CX.out _ (by repeat first | with_reducible exact Below.refl _ _ | with_reducible assumption | with_reducible refine Below.setCell ?_ (by first | omega | (simp; done) | (simp; omega)) _ | with_reducible refine Below.alloc ?_ (by first | omega | (simp; done) | (simp; omega)) _ | with_reducible refine Below.drew ?_ | with_reducible refine Ext.on _ ?_ (by first | omega | (simp; done) | (simp; omega))))) | (go_at_call 46; exact Cls.call (CN.out _ (by repeat first | with_reducible exact Below.refl _ _ | with_reducible assumption | with_reducible refine Below.setCell ?_ (by first | omega | (simp; done) | (simp; omega)) _ | with_reducible refine Below.alloc ?_ (by first | omega | (simp; done) | (simp; omega)) _ | with_reducible refine Below.drew ?_ | with_reducible refine Ext.on _ ?_ (by first | omega | (simp; done) | (simp; omega)))))))
      refine wpQuiet_nil ?_
      rintro _ ⟨t, rfl⟩
      obtain ⟨t1, t2, t3, t4, t5⟩ := t.lts n1
      go_wp2_with fail
      have z0 : (y.val.cell? ⟨w.heap.size + 1, 0, none⟩).isSome = true := by rw [y.cell 0 (by simp)]; simp [go_sem]
      have z1 : (y.val.cell? ⟨w.heap.size + 1, 1, none⟩).isSome = true := by rw [y.cell 1 (by simp)]; simp [go_sem]
      have z2 : (y.val.cell? ⟨w.heap.size + 1, 2, none⟩).isSome = true := by rw [y.cell 2 (by simp)]; simp [go_sem]
      have c0 : (t.val.cell? ⟨w.heap.size + 1, 0, none⟩).isSome = true := by rw [t.cell 0 n1, x.cell 0 m1]; exact z0
      have c1 : (t.val.cell? ⟨w.heap.size + 1, 1, none⟩).isSome = true := by rw [t.cell 1 n1, x.cell 1 m1]; exact z1
      have c2 : (t.val.cell? ⟨w.heap.size + 1, 2, none⟩).isSome = true := by rw [t.cell 2 n1, x.cell 2 m1]; exact z2
      refine ret_ex rfl ?_
      simp [results, Tryd.results14, go_sem, c0, c1, c2]
      refine Cls.of ?_
      repeat first | with_reducible exact Below.refl _ _ | with_reducible assumption | with_reducible refine Below.setCell ?_ (by first | omega | (simp; done) | (simp; omega)) _ | with_reducible refine Below.alloc ?_ (by first | omega | (simp; done) | (simp; omega)) _ | with_reducible refine Below.drew ?_ | with_reducible refine Ext.on _ ?_ (by first | omega | (simp; done) | (simp; omega))
set_option maxRecDepth 20000 in
set_option maxHeartbeats 4000000 in
theorem reval_24 (e : Ex) (ih : ∀ k ∈ e.kids, REvalOf k) (a : Option Addr) (len cap : Nat) (ok : Nat → Prop) (ra : Option Addr) (rlen rcap : Nat) (row : List Vl) (w : World) (hk : Kids w ok a len cap e.kids) (hsl : Slim e) (hr : RowIs w ra rlen rcap row) (hop : e.op = 24) (hl : len = 1) (hs : ∀ v ∈ e.kids.map (evalE · row), v.s.size ≤ maxLen) (v : Vl) (hv : v = unV 24 ((e.kids.map (evalE · row)).getD 0 Vl.z)) :
    Calls Tryd.prog 14 #[.agg #[.int .i64 24, .int .i64 e.ty, .int .i64 e.num, .string e.text, .int .i64 e.col, .slice a len cap], .slice ra rlen rcap] w fun r w' => r = .returned (.agg #[.int .i64 (v).k, .int .i64 (v).n, .string (v).s]) ∧ Cls w w' := by
  obtain ⟨i0, hi, hz0, hz1, hz2⟩ := info_parts infoVl
  have hlen := hk.len_eq
  have hle := hk.le
  have hmax := hk.max
  have h12 := hsl.le
  unfold maxLen at hmax
  have HL := Lib.hid hlen
  have hl12 : len ≤ 12 := by omega
  have HV := Lib.hid hv
  have HS := Lib.hid hs
  have HR := Lib.hid hr
  have HK := Lib.hid hk
  have HI := Lib.hid ih
  have HM := Lib.hid hsl
  have CK : Hid (∀ W, Below w.heap.size w W → Calls Tryd.prog 41 #[.int .i64 24, .int .i64 (len : Nat)] W fun r w' => r = .returned (.bool true) ∧ Cls W w') := Lib.hid (fun W _ => by
    have := rkids_calls 24 len W (by omega) (by omega)
    rw [show takesO 24 len = true by rw [hl]; rfl] at this
    exact this)
  have H2 := Lib.hid hl
  clear hlen h12 hv hs hr hk ih hsl hop hl
  go_enter Tryd.func14, Tryd.ntmps14
  go_wp2_with ((go_at_call 41; ((with_reducible refine (CK.out _ ?_).mono ?_); (· (repeat first | with_reducible exact Below.refl _ _ | with_reducible assumption | with_reducible refine Below.setCell ?_ (by first | omega | (simp; done) | (simp; omega)) _ | with_reducible refine Below.alloc ?_ (by first | omega | (simp; done) | (simp; omega)) _ | with_reducible refine Below.drew ?_ | with_reducible refine Ext.on _ ?_ (by first | omega | (simp; done) | (simp; omega)))); rintro e1 _ ⟨rfl, y, rfl⟩; obtain ⟨l1, l2, l3, l4, l5⟩ := y.lts (b := w.heap.size) (by simp; omega); obtain ⟨m1, m2, m3, m4, m5⟩ := y.lts (b := w.heap.size + 1) (by simp); have ys := y.size; simp at ys)))
  go_loopw [5, 6] (fun u i wr => ∃ (j : Nat) (vs : List Vl), Cls y.val wr ∧ j ≤ len ∧ i = .int .i64 j ∧ wr.ownsRow y.val.heap.size 39 3 u vs.length (flatV vs) ∧ vs = (e.kids.take j).map (evalE · row)) (fun _ i _ => len - (intOf i).toNat)
  case atStart => exact ⟨0, [], Cls.of (Below.refl _ _), Nat.zero_le _, rfl, World.ownsRow_nil _ _ _ 3, rfl⟩
  case round =>
    obtain ⟨j, vs, ⟨x, rfl⟩, hj, rfl, hrow, hvs⟩ := hrel
    have hvl : vs.length = j := by rw [hvs, List.length_map, List.length_take, HL.out]; omega
    have HO := Lib.hid hrow
    have HVS := Lib.hid hvs
    have HVL := Lib.hid hvl
    clear hrow hvs hvl
    have xs := x.size
    obtain ⟨x1, x2, x3, x4, x5⟩ := x.lts l1
    obtain ⟨n1, n2, n3, n4, n5⟩ := x.lts m1
    by_cases hlt : j < len
    · obtain ⟨aj, lenj, capj, ⟨b, off, rfl, hb, _, q0, q1, q2, q3, q4, q5⟩, fj, kj⟩ := HK.out.at_ (i := j) hlt
      have hb1 : b < w.heap.size + 1 := by omega
      have hb2 : b < w.heap.size + 1 + 1 := by omega
      obtain ⟨g1, g2, g3, g4, g5⟩ := y.lts (b := b) (by simp; omega)
      obtain ⟨k1, k2, k3, k4, k5⟩ := x.lts g1
      have hmem := getD_mem (l := e.kids) (i := j) (by rw [HL.out]; exact hlt)
      have C1 : Hid (∀ W, Below w.heap.size w W → Calls Tryd.prog 14 #[.agg #[.int .i64 (e.kids.getD j Ex.z).op, .int .i64 (e.kids.getD j Ex.z).ty, .int .i64 (e.kids.getD j Ex.z).num, .string (e.kids.getD j Ex.z).text, .int .i64 (e.kids.getD j Ex.z).col, .slice aj lenj capj], .slice ra rlen rcap] W fun r w' => r = .returned (.agg #[.int .i64 (evalE (e.kids.getD j Ex.z) row).k, .int .i64 (evalE (e.kids.getD j Ex.z) row).n, .string (evalE (e.kids.getD j Ex.z) row).s]) ∧ Cls W w') := Lib.hid (fun W hW => HI.out _ hmem aj lenj capj ok ra rlen rcap row W (kj.later hW) fj (HM.out.kid _ hmem) (HR.out.later hW))
      have HT := Lib.hid (take_mapV (l := e.kids) (j := j) row (by rw [HL.out]; exact hlt))
      clear fj kj hmem
      generalize evalE (e.kids.getD j Ex.z) row = vj at C1 HT
      generalize e.kids.getD j Ex.z = ej at *
      go_wp2_with (first | (go_at_call 14; ((with_reducible refine (C1.out _ ?_).mono ?_); (· (repeat first | with_reducible exact Below.refl _ _ | with_reducible assumption | with_reducible refine Below.setCell ?_ (by first | omega | (simp; done) | (simp; omega)) _ | with_reducible refine Below.alloc ?_ (by first | omega | (simp; done) | (simp; omega)) _ | with_reducible refine Below.drew ?_ | with_reducible refine Ext.on _ ?_ (by first | omega | (simp; done) | (simp; omega)))); rintro e1 _ ⟨rfl, t, rfl⟩; have ts := t.size)) | (at_builtin; refine wpList_append_own_at _ rfl _ _ 32 rfl y.val.heap.size 39 i0 (.agg #[.int .i64 0, .int .i64 0, .string ⟨#[]⟩]) 3 32 Tryd.underlying32 hi hz0 hz1 hz2 rfl (by decide) _ vs.length (flatV vs) rfl (ownV_later HO.out (by repeat first | with_reducible exact Below.refl _ _ | with_reducible assumption | with_reducible refine Below.setCell ?_ (by first | omega | (simp; done) | (simp; omega)) _ | with_reducible refine Below.alloc ?_ (by first | omega | (simp; done) | (simp; omega)) _ | with_reducible refine Below.drew ?_ | with_reducible refine Ext.on _ ?_ (by first | omega | (simp; done) | (simp; omega)))) ⟨t.val.heap.size, 0, none⟩ 1 1 (Vl.cells vj) rfl rfl (cells_new _ _ _) (Vl.one _) (by have := HVL.out; unfold maxLen; omega) (by have := HVL.out; omega) (by have := t.size; simp at this ⊢; omega) ?_; intro v3 w3 hown3 hg3 _ hat3; have HO3 := Lib.hid hown3; have HG := Lib.hid hg3; have HA := Lib.hid hat3; clear hown3 hg3 hat3))
      go_roundw
      case rel =>
        refine ⟨j + 1, vs ++ [vj], Cls.of (Below.grown (w := t.val.alloc _) ?_ HG.out (by simp; omega) (fun k hk => by have := (HO.out.lt k hk).1; simp; omega)), by omega, by go_num, ?_, by rw [HVS.out, HT.out]⟩
        · repeat first | with_reducible exact Below.refl _ _ | with_reducible assumption | with_reducible refine Below.setCell ?_ (by first | omega | (simp; done) | (simp; omega)) _ | with_reducible refine Below.alloc ?_ (by first | omega | (simp; done) | (simp; omega)) _ | with_reducible refine Below.drew ?_ | with_reducible refine Ext.on _ ?_ (by first | omega | (simp; done) | (simp; omega))
        · rw [List.length_append, flatV_append]; simpa [flatV] using HO3.out
      case measure => simp [intOf]; omega
    · have hj2 : vs.length = 1 := by have := HVL.out; have := H2.out; omega
      have hvs2 : vs = e.kids.map (evalE · row) := by rw [HVS.out, List.take_of_length_le (by rw [HL.out]; omega)]
      obtain ⟨a3, cap3, hu, hrow⟩ := rowIs_of HO.out (by rw [hvs2]; exact HS.out)
      rw [← hvs2] at HV
      rw [hj2] at hu hrow
      obtain ⟨_, hlc, hcm, hsv, hcells⟩ := hrow
      obtain ⟨b, off, rfl, hb, hc⟩ := hcells.resolve_left (by omega)
      obtain ⟨p0, p1, p2⟩ := hc 0 (by omega)
      have hs0 := getD_size hsv 0
      simp only [Nat.zero_mul, Nat.add_zero] at p0 p1 p2
      clear hc hcells hsv hvs2 HVS HO HVL
      generalize vs.getD 0 Vl.z = v0 at *
      subst hu
      unfold maxLen at hcm
      have CX : Hid (∀ W, Below w.heap.size w W → Calls Tryd.prog 44 #[.agg #[.int .i64 (v0).k, .int .i64 (v0).n, .string (v0).s]] W fun r w' => r = .returned (.agg #[.int .i64 (v).k, .int .i64 (v).n, .string (v).s]) ∧ Cls W w') := Lib.hid (fun W _ => by rw [HV.out, show unV 24 v0 = tvV (notT (trV v0)) from rfl]; exact rNot_calls _ _ _ W)
      have hlt2 : decide ((j : Int) < (len : Int)) = false := by simp; omega
      go_wp2_with (first | (go_at_call 44; ((with_reducible refine (CX.out _ ?_).mono ?_); (· (repeat first | with_reducible exact Below.refl _ _ | with_reducible assumption | with_reducible refine Below.setCell ?_ (by first | omega | (simp; done) | (simp; omega)) _ | with_reducible refine Below.alloc ?_ (by first | omega | (simp; done) | (simp; omega)) _ | with_reducible refine Below.drew ?_ | with_reducible refine Ext.on _ ?_ (by first | omega | (simp; done) | (simp; omega)))); rintro e1 _ ⟨rfl, t, rfl⟩; obtain ⟨t1, t2, t3, t4, t5⟩ := t.lts n1)))
      have z0 : (y.val.cell? ⟨w.heap.size + 1, 0, none⟩).isSome = true := by rw [y.cell 0 (by simp)]; simp [go_sem]
      have z1 : (y.val.cell? ⟨w.heap.size + 1, 1, none⟩).isSome = true := by rw [y.cell 1 (by simp)]; simp [go_sem]
      have z2 : (y.val.cell? ⟨w.heap.size + 1, 2, none⟩).isSome = true := by rw [y.cell 2 (by simp)]; simp [go_sem]
      have c0 : (t.val.cell? ⟨w.heap.size + 1, 0, none⟩).isSome = true := by rw [t.cell 0 n1, x.cell 0 m1]; exact z0
      have c1 : (t.val.cell? ⟨w.heap.size + 1, 1, none⟩).isSome = true := by rw [t.cell 1 n1, x.cell 1 m1]; exact z1
      have c2 : (t.val.cell? ⟨w.heap.size + 1, 2, none⟩).isSome = true := by rw [t.cell 2 n1, x.cell 2 m1]; exact z2
      refine ret_ex rfl ?_
      simp [results, Tryd.results14, go_sem, c0, c1, c2]
      refine Cls.of ?_
      repeat first | with_reducible exact Below.refl _ _ | with_reducible assumption | with_reducible refine Below.setCell ?_ (by first | omega | (simp; done) | (simp; omega)) _ | with_reducible refine Below.alloc ?_ (by first | omega | (simp; done) | (simp; omega)) _ | with_reducible refine Below.drew ?_ | with_reducible refine Ext.on _ ?_ (by first | omega | (simp; done) | (simp; omega))
end Go.Proofs.YtpddkljedhghkaaDoor
