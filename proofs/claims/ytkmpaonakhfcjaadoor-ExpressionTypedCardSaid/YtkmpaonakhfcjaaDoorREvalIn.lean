/-
  What the reference's Eval gives for a membership test.
-/
import Derived.Test.YtkmpaonakhfcjaaDoorREvalBase
import Derived.Test.YtkmpaonakhfcjaaDoorNew
set_option linter.unusedVariables false
namespace Go.Proofs.YtkmpaonakhfcjaaDoor
open Go Go.RowKit
theorem truT_eqT (t : Int) (h : t = 0 ∨ t = 1 ∨ t = 2) : orT 0 (truT (tvK t) (tvN t)) = t := by
  rcases h with rfl | rfl | rfl <;> rfl
theorem eqT_cases (k n : Int) (s : ByteArray) (k' n' : Int) (s' : ByteArray) : eqT k n s k' n' s' = 0 ∨ eqT k n s k' n' s' = 1 ∨ eqT k n s k' n' s' = 2 := by
  unfold eqT
  split
  · simp
  · split
    · simp
    · cases sameB k n s k' n' s' <;> simp [b2i]
theorem orV_first (v x : Vl) : orV (tvV 0) v x = tvV (eqV v x) := by
  show tvV (orT (trV (tvV 0)) (trV (tvV (eqV v x)))) = _
  congr 1
  exact truT_eqT _ (eqT_cases _ _ _ _ _ _)
theorem dropVl {l : List Vl} {j : Nat} (h : j < l.length) : l.drop j = l.getD j Vl.z :: l.drop (j + 1) := by
  rw [List.drop_eq_getElem_cons h]
  simp [List.getD, h]
set_option maxRecDepth 20000 in
set_option maxHeartbeats 4000000 in
theorem reval_28 (e : Ex) (ih : ∀ k ∈ e.kids, REvalOf k) (a : Option Addr) (len cap : Nat) (ok : Nat → Prop) (ra : Option Addr) (rlen rcap : Nat) (row : List Vl) (w : World) (hk : Kids w ok a len cap e.kids) (hsl : Slim e) (hr : RowIs w ra rlen rcap row) (hop : e.op = 28) (hl : 2 ≤ len) (hs : ∀ v ∈ e.kids.map (evalE · row), v.s.size ≤ maxLen) (v : Vl) (hv : v = inV ((e.kids.map (evalE · row)).getD 0 Vl.z) ((e.kids.map (evalE · row)).drop 1) (tvV 0)) :
    Calls Tryd.prog 14 #[.agg #[.int .i64 28, .int .i64 e.ty, .int .i64 e.num, .string e.text, .int .i64 e.col, .slice a len cap], .slice ra rlen rcap] w fun r w' => r = .returned (.agg #[.int .i64 (v).k, .int .i64 (v).n, .string (v).s]) ∧ Cls w w' := by
  obtain ⟨i0, hi, hz0, hz1, hz2⟩ := info_parts infoVl
  have hlen := hk.len_eq
  have hle := hk.le
  have hmax := hk.max
  have h12 := hsl.le
  unfold maxLen at hmax
  have HL := Lib.hid hlen
  have hl12 : len ≤ 12 := by omega
  have HV := Lib.hid hv
  have HS := Lib.hid hs
  have HR := Lib.hid hr
  have HK := Lib.hid hk
  have HI := Lib.hid ih
  have HM := Lib.hid hsl
  have CK : Hid (∀ W, Below w.heap.size w W → Calls Tryd.prog 39 #[.int .i64 28, .int .i64 (len : Nat)] W fun r w' => r = .returned (.bool true) ∧ Cls W w') := Lib.hid (fun W _ => by
    have := rkids_calls 28 len W (by omega) (by omega)
    rw [show takesO 28 len = true by simp [takesO, oneB, hl]] at this
    exact this)
  have H2 := Lib.hid hl
  clear hlen h12 hv hs hr hk ih hsl hop hl
  go_enter Tryd.func14, Tryd.ntmps14
  go_wp2_with ((go_at_call 39; ((with_reducible refine (CK.out _ ?_).mono ?_); (· (repeat first | with_reducible exact Below.refl _ _ | with_reducible assumption | with_reducible refine Below.setCell ?_ (by first | omega | (simp; done) | (simp; omega)) _ | with_reducible refine Below.alloc ?_ (by first | omega | (simp; done) | (simp; omega)) _ | with_reducible refine Below.drew ?_ | with_reducible refine Ext.on _ ?_ (by first | omega | (simp; done) | (simp; omega)))); rintro e1 _ ⟨rfl, y, rfl⟩; obtain ⟨l1, l2, l3, l4, l5⟩ := y.lts (b := w.heap.size) (by simp; omega); obtain ⟨m1, m2, m3, m4, m5⟩ := y.lts (b := w.heap.size + 1) (by simp); have ys := y.size; simp at ys)))
  go_loopw [5, 6] (fun u i wr => ∃ (j : Nat) (vs : List Vl), Cls y.val wr ∧ j ≤ len ∧ i = .int .i64 j ∧ wr.ownsRow y.val.heap.size 39 3 u vs.length (flatV vs) ∧ vs = (e.kids.take j).map (evalE · row)) (fun _ i _ => len - (intOf i).toNat)
  case atStart => exact ⟨0, [], Cls.of (Below.refl _ _), Nat.zero_le _, rfl, World.ownsRow_nil _ _ _ 3, rfl⟩
  case round =>
    obtain ⟨j, vs, ⟨x, rfl⟩, hj, rfl, hrow, hvs⟩ := hrel
    have hvl : vs.length = j := by rw [hvs, List.length_map, List.length_take, HL.out]; omega
    have HO := Lib.hid hrow
    have HVS := Lib.hid hvs
    have HVL := Lib.hid hvl
    clear hrow hvs hvl
    have xs := x.size
    obtain ⟨x1, x2, x3, x4, x5⟩ := x.lts l1
    obtain ⟨n1, n2, n3, n4, n5⟩ := x.lts m1
    by_cases hlt : j < len
    · obtain ⟨aj, lenj, capj, ⟨b, off, rfl, hb, _, q0, q1, q2, q3, q4, q5⟩, fj, kj⟩ := HK.out.at_ (i := j) hlt
      have hb1 : b < w.heap.size + 1 := by omega
      have hb2 : b < w.heap.size + 1 + 1 := by omega
      obtain ⟨g1, g2, g3, g4, g5⟩ := y.lts (b := b) (by simp; omega)
      obtain ⟨k1, k2, k3, k4, k5⟩ := x.lts g1
      have hmem := getD_mem (l := e.kids) (i := j) (by rw [HL.out]; exact hlt)
      have C1 : Hid (∀ W, Below w.heap.size w W → Calls Tryd.prog 14 #[.agg #[.int .i64 (e.kids.getD j Ex.z).op, .int .i64 (e.kids.getD j Ex.z).ty, .int .i64 (e.kids.getD j Ex.z).num, .string (e.kids.getD j Ex.z).text, .int .i64 (e.kids.getD j Ex.z).col, .slice aj lenj capj], .slice ra rlen rcap] W fun r w' => r = .returned (.agg #[.int .i64 (evalE (e.kids.getD j Ex.z) row).k, .int .i64 (evalE (e.kids.getD j Ex.z) row).n, .string (evalE (e.kids.getD j Ex.z) row).s]) ∧ Cls W w') := Lib.hid (fun W hW => HI.out _ hmem aj lenj capj ok ra rlen rcap row W (kj.later hW) fj (HM.out.kid _ hmem) (HR.out.later hW))
      have HT := Lib.hid (take_mapV (l := e.kids) (j := j) row (by rw [HL.out]; exact hlt))
      clear fj kj hmem
      generalize evalE (e.kids.getD j Ex.z) row = vj at C1 HT
      generalize e.kids.getD j Ex.z = ej at *
      go_wp2_with (first | (go_at_call 14; ((with_reducible refine (C1.out _ ?_).mono ?_); (· (repeat first | with_reducible exact Below.refl _ _ | with_reducible assumption | with_reducible refine Below.setCell ?_ (by first | omega | (simp; done) | (simp; omega)) _ | with_reducible refine Below.alloc ?_ (by first | omega | (simp; done) | (simp; omega)) _ | with_reducible refine Below.drew ?_ | with_reducible refine Ext.on _ ?_ (by first | omega | (simp; done) | (simp; omega)))); rintro e1 _ ⟨rfl, t, rfl⟩; have ts := t.size)) | (at_builtin; refine wpList_append_own_at _ rfl _ _ 32 rfl y.val.heap.size 39 i0 (.agg #[.int .i64 0, .int .i64 0, .string ⟨#[]⟩]) 3 32 Tryd.underlying32 hi hz0 hz1 hz2 rfl (by decide) _ vs.length (flatV vs) rfl (ownV_later HO.out (by repeat first | with_reducible exact Below.refl _ _ | with_reducible assumption | with_reducible refine Below.setCell ?_ (by first | omega | (simp; done) | (simp; omega)) _ | with_reducible refine Below.alloc ?_ (by first | omega | (simp; done) | (simp; omega)) _ | with_reducible refine Below.drew ?_ | with_reducible refine Ext.on _ ?_ (by first | omega | (simp; done) | (simp; omega)))) ⟨t.val.heap.size, 0, none⟩ 1 1 (Vl.cells vj) rfl rfl (cells_new _ _ _) (Vl.one _) (by have := HVL.out; unfold maxLen; omega) (by have := HVL.out; omega) (by have := t.size; simp at this ⊢; omega) ?_; intro v3 w3 hown3 hg3 _ hat3; have HO3 := Lib.hid hown3; have HG := Lib.hid hg3; have HA := Lib.hid hat3; clear hown3 hg3 hat3))
      go_roundw
      case rel =>
        refine ⟨j + 1, vs ++ [vj], Cls.of (Below.grown (w := t.val.alloc _) ?_ HG.out (by simp; omega) (fun k hk => by have := (HO.out.lt k hk).1; simp; omega)), by omega, by go_num, ?_, by rw [HVS.out, HT.out]⟩
        · repeat first | with_reducible exact Below.refl _ _ | with_reducible assumption | with_reducible refine Below.setCell ?_ (by first | omega | (simp; done) | (simp; omega)) _ | with_reducible refine Below.alloc ?_ (by first | omega | (simp; done) | (simp; omega)) _ | with_reducible refine Below.drew ?_ | with_reducible refine Ext.on _ ?_ (by first | omega | (simp; done) | (simp; omega))
        · rw [List.length_append, flatV_append]; simpa [flatV] using HO3.out
      case measure => simp [intOf]; omega
    · have hj2 : vs.length = len := by have := HVL.out; omega
      have hvs2 : vs = e.kids.map (evalE · row) := by rw [HVS.out, List.take_of_length_le (by rw [HL.out]; omega)]
      obtain ⟨a3, cap3, hu, hrow⟩ := rowIs_of HO.out (by rw [hvs2]; exact HS.out)
      rw [← hvs2] at HV
      rw [hj2] at hu hrow
      obtain ⟨_, hlc, hcm, hsv, hcells⟩ := hrow
      have hl2 := H2.out
      obtain ⟨b, off, rfl, hb, hc⟩ := hcells.resolve_left (by omega)
      have HC := Lib.hid hc
      have HVLEN := Lib.hid hj2
      obtain ⟨p0, p1, p2⟩ := hc 0 (by omega)
      simp only [Nat.zero_mul, Nat.add_zero, Nat.one_mul, Nat.reduceMul, Nat.add_assoc, Nat.reduceAdd] at p0 p1 p2
      obtain ⟨q0, q1, q2⟩ := hc 1 (by omega)
      simp only [Nat.zero_mul, Nat.add_zero, Nat.one_mul, Nat.reduceMul, Nat.add_assoc, Nat.reduceAdd] at q0 q1 q2
      have HD : Hid (v = inV (vs.getD 0 Vl.z) (vs.drop 2) (tvV (eqV (vs.getD 0 Vl.z) (vs.getD 1 Vl.z)))) := Lib.hid (by rw [HV.out, dropVl (j := 1) (by omega), inV, orV_first])
      clear hc hcells hsv hvs2 HVS HO HVL HV hj2
      generalize vs.getD 0 Vl.z = v0 at *
      generalize vs.getD 1 Vl.z = v1 at *
      subst hu
      unfold maxLen at hcm
      have hlt2 : decide ((j : Int) < (len : Int)) = false := by simp; omega
      go_wp2_with fail
      have i0 : 0 < len := by omega
      have i1 : (1 : Int) < (len : Int) := by omega
      refine wp_region_new1 7 (.cells #[.int .i64 0, .int .i64 0, .string ⟨#[]⟩] 39) _ 7 (by kernel_rfl) (by kernel_rfl) rfl rfl (fun _ _ => by go_simp) ?_
      simp only [List.take_succ_cons, List.take_zero, List.drop_succ_cons, List.drop_zero]
      repeat (refine wpR_step (fun K hK => ?_); go_simp; first | (refine hK _ ?_; clear hK K) | (apply Exists.intro; refine ⟨fun _ => ?_, hK _ ?_⟩; ((go_at_call 41; exact (rEqual_calls _ _ _ _ _ _ _))); clear hK K))
      refine wpR_nil ?_
      intro B t hb1 hb2 hb3
      have eb := fun i => cells_of hb3 i
      have fb := fun i => free_of hb3 i
      clear hb3
      have nb1 : ¬ B = w.heap.size := by omega
      have nb2 : ¬ B = w.heap.size + 1 := by omega
      have nb3 : ¬ B = b := by omega
      go_wp2_with fail
      go_loopw [8] (fun i wr => ∃ (j : Nat) (acc : Vl), Cls x.val wr ∧ 2 ≤ j ∧ j ≤ len ∧ i = .int .i64 j ∧ B < wr.heap.size ∧ (wr.cell? ⟨B, 0, none⟩ = some (.int .i64 acc.k) ∧ wr.cell? ⟨B, 1, none⟩ = some (.int .i64 acc.n) ∧ wr.cell? ⟨B, 2, none⟩ = some (.string acc.s)) ∧ (wr.frozen? ⟨B, 0, none⟩ = false ∧ wr.frozen? ⟨B, 1, none⟩ = false ∧ wr.frozen? ⟨B, 2, none⟩ = false) ∧ v = inV v0 (vs.drop j) acc) (fun i _ => len - (intOf i).toNat)
      case atStart =>
        refine ⟨2, tvV (eqV v0 v1), Cls.of ?_, by omega, by omega, rfl, ?_, ⟨?_, ?_, ?_⟩, ⟨?_, ?_, ?_⟩, HD.out⟩
        · repeat first | with_reducible exact Below.refl _ _ | with_reducible refine Below.setCell ?_ (by first | omega | (simp; done) | (simp; omega)) _ | with_reducible refine Below.alloc ?_ (by first | omega | (simp; done) | (simp; omega)) _ | with_reducible refine Below.drew ?_ | with_reducible refine Ext.on _ ?_ (by first | omega | (simp; done) | (simp; omega))
        · simp [go_sem]; omega
        all_goals simp [go_sem, tvV, eqV, eb, fb]
      case round =>
        clear q0 q1 q2 HD
        obtain ⟨m, acc, ⟨s, rfl⟩, hm2, hml, rfl, hF, ⟨c0, c1, c2⟩, ⟨f0, f1, f2⟩, he⟩ := hrel
        have HE := Lib.hid he
        clear he eb fb
        obtain ⟨d1, d2, d3, d4, d5⟩ := s.lts hb
        obtain ⟨s1, s2, s3, s4, s5⟩ := s.lts n1
        by_cases hlt3 : m < len
        · obtain ⟨r0, r1, r2⟩ := HC.out m hlt3
          have HN : Hid (inV v0 (vs.drop m) acc = inV v0 (vs.drop (m + 1)) (orV acc v0 (vs.getD m Vl.z))) := Lib.hid (by rw [dropVl (by have := HVLEN.out; omega)]; rfl)
          generalize vs.getD m Vl.z = vm at r0 r1 r2 HN
          go_wp2_with fail
          refine wp_region_ext_tail 10 (by kernel_rfl) (by kernel_rfl) ?_
          simp only [List.take_succ_cons, List.take_zero, List.drop_succ_cons, List.drop_zero]
          repeat (go_big_quiet_step (first | (go_at_call 41; exact Cls.call (rEqual_calls _ _ _ _ _ _ _)) | (go_at_call 47; exact Cls.call (rOr_calls _ _ _ _ _ _ _))))
          refine wpQuiet_nil ?_
          rintro _ ⟨x2, rfl⟩
          have xF := (x2.lts hF).1
          have k0 : (x2.val.cell? ⟨B, 0, none⟩).isSome = true := by rw [x2.cell 0 hF, c0]; rfl
          have h0 : x2.val.frozen? ⟨B, 0, none⟩ = false := by rw [x2.frozen 0 hF]; exact f0
          have k1 : (x2.val.cell? ⟨B, 1, none⟩).isSome = true := by rw [x2.cell 1 hF, c1]; rfl
          have h1 : x2.val.frozen? ⟨B, 1, none⟩ = false := by rw [x2.frozen 1 hF]; exact f1
          have k2 : (x2.val.cell? ⟨B, 2, none⟩).isSome = true := by rw [x2.cell 2 hF, c2]; rfl
          have h2 : x2.val.frozen? ⟨B, 2, none⟩ = false := by rw [x2.frozen 2 hF]; exact f2
          go_wp2_with fail
          go_roundw
          case rel =>
            refine ⟨m + 1, orV acc v0 vm, Cls.of ?_, by omega, by omega, by go_num, ?_, ⟨?_, ?_, ?_⟩, ⟨?_, ?_, ?_⟩, by rw [HE.out, HN.out]⟩
            · repeat first | with_reducible exact Below.refl _ _ | with_reducible refine Below.setCell ?_ (by first | omega | (simp; done) | (simp; omega)) _ | with_reducible refine Below.alloc ?_ (by first | omega | (simp; done) | (simp; omega)) _ | with_reducible refine Below.drew ?_ | with_reducible refine Ext.on _ ?_ (by first | omega | (simp; done) | (simp; omega))
            all_goals simp [go_sem, orV, tvV, eqV, trV, xF, k0, k1, k2, h0, h1, h2]
          case measure => simp [intOf]; omega
        · have HT2 : Hid (v = acc) := Lib.hid (by rw [HE.out, List.drop_of_length_le (by have := HVLEN.out; omega)]; rfl)
          go_wp2_with fail
          have z0 : (y.val.cell? ⟨w.heap.size + 1, 0, none⟩).isSome = true := by rw [y.cell 0 (by simp)]; simp [go_sem]
          have z1 : (y.val.cell? ⟨w.heap.size + 1, 1, none⟩).isSome = true := by rw [y.cell 1 (by simp)]; simp [go_sem]
          have z2 : (y.val.cell? ⟨w.heap.size + 1, 2, none⟩).isSome = true := by rw [y.cell 2 (by simp)]; simp [go_sem]
          have k0 : (s.val.cell? ⟨w.heap.size + 1, 0, none⟩).isSome = true := by rw [s.cell 0 n1, x.cell 0 m1]; exact z0
          have k1 : (s.val.cell? ⟨w.heap.size + 1, 1, none⟩).isSome = true := by rw [s.cell 1 n1, x.cell 1 m1]; exact z1
          have k2 : (s.val.cell? ⟨w.heap.size + 1, 2, none⟩).isSome = true := by rw [s.cell 2 n1, x.cell 2 m1]; exact z2
          refine ret_ex rfl ?_
          rw [HT2.out]
          simp [results, Tryd.results14, go_sem, k0, k1, k2]
          refine Cls.of ?_
          repeat first | with_reducible exact Below.refl _ _ | with_reducible refine Below.setCell ?_ (by first | omega | (simp; done) | (simp; omega)) _ | with_reducible refine Below.alloc ?_ (by first | omega | (simp; done) | (simp; omega)) _ | with_reducible refine Below.drew ?_ | with_reducible refine Ext.on _ ?_ (by first | omega | (simp; done) | (simp; omega))
end Go.Proofs.YtkmpaonakhfcjaaDoor
