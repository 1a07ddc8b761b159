/-
  What the reference's Eval gives for a membership test. What the reference's Eval gives for an operation that there is not, or with a wrong number of Kids. The reference's Eval, for every expression.
-/
import Derived.Test.YtpddkljedhghkaaDoorA17
import Derived.Test.YtpddkljedhghkaaDoorA22
import Derived.Test.YtpddkljedhghkaaDoorA18
import Derived.Test.YtpddkljedhghkaaDoorA19
import Derived.Test.YtpddkljedhghkaaDoorA20
import Derived.Test.YtpddkljedhghkaaDoorA21
set_option linter.unusedVariables false
namespace Go.Proofs.YtpddkljedhghkaaDoor
open Go Go.RowKit
theorem truT_eqT (t : Int) (h : t = 0 ∨ t = 1 ∨ t = 2) : orT 0 (truT (tvK t) (tvN t)) = t := by
  rcases h with rfl | rfl | rfl <;> rfl
theorem eqT_cases (k n : Int) (s : ByteArray) (k' n' : Int) (s' : ByteArray) : eqT k n s k' n' s' = 0 ∨ eqT k n s k' n' s' = 1 ∨ eqT k n s k' n' s' = 2 := by
  unfold eqT
  split
  · simp
  · split
    · simp
    · cases sameB k n s k' n' s' <;> simp [b2i]
theorem orV_first (v x : Vl) : orV (tvV 0) v x = tvV (eqV v x) := by
  show tvV (orT (trV (tvV 0)) (trV (tvV (eqV v x)))) = _
  congr 1
  exact truT_eqT _ (eqT_cases _ _ _ _ _ _)
theorem dropVl {l : List Vl} {j : Nat} (h : j < l.length) : l.drop j = l.getD j Vl.z :: l.drop (j + 1) := by
  rw [List.drop_eq_getElem_cons h]
  simp [List.getD, h]
set_option maxRecDepth 20000 in
set_option maxHeartbeats 4000000 in
theorem reval_28 (e : Ex) (ih : ∀ k ∈ e.kids, REvalOf k) (a : Option Addr) (len cap : Nat) (ok : Nat → Prop) (ra : Option Addr) (rlen rcap : Nat) (row : List Vl) (w : World) (hk : Kids w ok a len cap e.kids) (hsl : Slim e) (hr : RowIs w ra rlen rcap row) (hop : e.op = 28) (hl : 2 ≤ len) (hs : ∀ v ∈ e.kids.map (evalE · row), v.s.size ≤ maxLen) (v : Vl) (hv : v = inV ((e.kids.map (evalE · row)).getD 0 Vl.z) ((e.kids.map (evalE · row)).drop 1) (tvV 0)) :
    Calls Tryd.prog 14 #[.agg #[.int .i64 28, .int .i64 e.ty, .int .i64 e.num, .string e.text, .int .i64 e.col, .slice a len cap], .slice ra rlen rcap] w fun r w' => r = .returned (.agg #[.int .i64 (v).k, .int .i64 (v).n, .string (v).s]) ∧ Cls w w' := by
  obtain ⟨i0, hi, hz0, hz1, hz2⟩ := info_parts infoVl
  have hlen := hk.len_eq
  have hle := hk.le
  have hmax := hk.max
  have h12 := hsl.le
  unfold maxLen at hmax
  have HL := Lib.hid hlen
  have hl12 : len ≤ 12 := by omega
  have HV := Lib.hid hv
  have HS := Lib.hid hs
  have HR := Lib.hid hr
  have HK := Lib.hid hk
  have HI := Lib.hid ih
  have HM := Lib.hid hsl
  have CK : Hid (∀ W, Below w.heap.size w W → Calls Tryd.prog 41 #[.int .i64 28, .int .i64 (len : Nat)] W fun r w' => r = .returned (.bool true) ∧ Cls W w') := Lib.hid (fun W _ => by
    have := rkids_calls 28 len W (by omega) (by omega)
    rw [show takesO 28 len = true by simp [takesO, oneB, hl]] at this
    exact this)
  have H2 := Lib.hid hl
  clear hlen h12 hv hs hr hk ih hsl hop hl
  go_enter Tryd.func14, Tryd.ntmps14
  go_wp2_with ((go_at_call 41; ((with_reducible refine (CK.out _ ?_).mono ?_); (· (repeat first | with_reducible exact Below.refl _ _ | with_reducible assumption | with_reducible refine Below.setCell ?_ (by first | omega | (simp; done) | (simp; omega)) _ | with_reducible refine Below.alloc ?_ (by first | omega | (simp; done) | (simp; omega)) _ | with_reducible refine Below.drew ?_ | with_reducible refine Ext.on _ ?_ (by first | omega | (simp; done) | (simp; omega)))); rintro e1 _ ⟨rfl, y, rfl⟩; obtain ⟨l1, l2, l3, l4, l5⟩ := y.lts (b := w.heap.size) (by simp; omega); obtain ⟨m1, m2, m3, m4, m5⟩ := y.lts (b := w.heap.size + 1) (by simp); have ys := y.size; simp at ys)))
  go_loopw [5, 6] (fun u i wr => ∃ (j : Nat) (vs : List Vl), Cls y.val wr ∧ j ≤ len ∧ i = .int .i64 j ∧ wr.ownsRow y.val.heap.size 39 3 u vs.length (flatV vs) ∧ vs = (e.kids.take j).map (evalE · row)) (fun _ i _ => len - (intOf i).toNat)
  case atStart => exact ⟨0, [], Cls.of (Below.refl _ _), Nat.zero_le _, rfl, World.ownsRow_nil _ _ _ 3, rfl⟩
  case round =>
    obtain ⟨j, vs, ⟨x, rfl⟩, hj, rfl, hrow, hvs⟩ := hrel
    have hvl : vs.length = j := by rw [hvs, List.length_map, List.length_take, HL.out]; omega
    have HO := Lib.hid hrow
    have HVS := Lib.hid hvs
    have HVL := Lib.hid hvl
    clear hrow hvs hvl
    have xs := x.size
    obtain ⟨x1, x2, x3, x4, x5⟩ := x.lts l1
    obtain ⟨n1, n2, n3, n4, n5⟩ := x.lts m1
    by_cases hlt : j < len
    · obtain ⟨aj, lenj, capj, ⟨b, off, rfl, hb, _, q0, q1, q2, q3, q4, q5⟩, fj, kj⟩ := HK.out.at_ (i := j) hlt
      have hb1 : b < w.heap.size + 1 := by omega
      have hb2 : b < w.heap.size + 1 + 1 := by omega
      obtain ⟨g1, g2, g3, g4, g5⟩ := y.lts (b := b) (by simp; omega)
      obtain ⟨k1, k2, k3, k4, k5⟩ := x.lts g1
      have hmem := getD_mem (l := e.kids) (i := j) (by rw [HL.out]; exact hlt)
      have C1 : Hid (∀ W, Below w.heap.size w W → Calls Tryd.prog 14 #[.agg #[.int .i64 (e.kids.getD j Ex.z).op, .int .i64 (e.kids.getD j Ex.z).ty, .int .i64 (e.kids.getD j Ex.z).num, .string (e.kids.getD j Ex.z).text, .int .i64 (e.kids.getD j Ex.z).col, .slice aj lenj capj], .slice ra rlen rcap] W fun r w' => r = .returned (.agg #[.int .i64 (evalE (e.kids.getD j Ex.z) row).k, .int .i64 (evalE (e.kids.getD j Ex.z) row).n, .string (evalE (e.kids.getD j Ex.z) row).s]) ∧ Cls W w') := Lib.hid (fun W hW => HI.out _ hmem aj lenj capj ok ra rlen rcap row W (kj.later hW) fj (HM.out.kid _ hmem) (HR.out.later hW))
      have HT := Lib.hid (take_mapV (l := e.kids) (j := j) row (by rw [HL.out]; exact hlt))
      clear fj kj hmem
      generalize evalE (e.kids.getD j Ex.z) row = vj at C1 HT
      generalize e.kids.getD j Ex.z = ej at *
      go_wp2_with (first | (go_at_call 14; ((with_reducible refine (C1.out _ ?_).mono ?_); (· (repeat first | with_reducible exact Below.refl _ _ | with_reducible assumption | with_reducible refine Below.setCell ?_ (by first | omega | (simp; done) | (simp; omega)) _ | with_reducible refine Below.alloc ?_ (by first | omega | (simp; done) | (simp; omega)) _ | with_reducible refine Below.drew ?_ | with_reducible refine Ext.on _ ?_ (by first | omega | (simp; done) | (simp; omega)))); rintro e1 _ ⟨rfl, t, rfl⟩; have ts := t.size)) | (at_builtin; refine wpList_append_own_at _ rfl _ _ 32 rfl y.val.heap.size 39 i0 (.agg #[.int .i64 0, .int .i64 0, .string ⟨#[]⟩]) 3 32 Tryd.underlying32 hi hz0 hz1 hz2 rfl (by decide) _ vs.length (flatV vs) rfl (ownV_later HO.out (by repeat first | with_reducible exact Below.refl _ _ | with_reducible assumption | with_reducible refine Below.setCell ?_ (by first | omega | (simp; done) | (simp; omega)) _ | with_reducible refine Below.alloc ?_ (by first | omega | (simp; done) | (simp; omega)) _ | with_reducible refine Below.drew ?_ | with_reducible refine Ext.on _ ?_ (by first | omega | (simp; done) | (simp; omega)))) ⟨t.val.heap.size, 0, none⟩ 1 1 (Vl.cells vj) rfl rfl (cells_new _ _ _) (Vl.one _) (by have := HVL.out; unfold maxLen; omega) (by have := HVL.out; omega) (by have := t.size; simp at this ⊢; omega) ?_; intro v3 w3 hown3 hg3 _ hat3; have HO3 := Lib.hid hown3; have HG := Lib.hid hg3; have HA := Lib.hid hat3; clear hown3 hg3 hat3))
      go_roundw
      case rel =>
        refine ⟨j + 1, vs ++ [vj], Cls.of (Below.grown (w := t.val.alloc _) ?_ HG.out (by simp; omega) (fun k hk => by have := (HO.out.lt k hk).1; simp; omega)), by omega, by go_num, ?_, by rw [HVS.out, HT.out]⟩
        · repeat first | with_reducible exact Below.refl _ _ | with_reducible assumption | with_reducible refine Below.setCell ?_ (by first | omega | (simp; done) | (simp; omega)) _ | with_reducible refine Below.alloc ?_ (by first | omega | (simp; done) | (simp; omega)) _ | with_reducible refine Below.drew ?_ | with_reducible refine Ext.on _ ?_ (by first | omega | (simp; done) | (simp; omega))
        · rw [List.length_append, flatV_append]; simpa [flatV] using HO3.out
      case measure => simp [intOf]; omega
    · have hj2 : vs.length = len := by have := HVL.out; omega
      have hvs2 : vs = e.kids.map (evalE · row) := by rw [HVS.out, List.take_of_length_le (by rw [HL.out]; omega)]
      obtain ⟨a3, cap3, hu, hrow⟩ := rowIs_of HO.out (by rw [hvs2]; exact HS.out)
      rw [← hvs2] at HV
      rw [hj2] at hu hrow
      obtain ⟨_, hlc, hcm, hsv, hcells⟩ := hrow
      have hl2 := H2.out
      obtain ⟨b, off, rfl, hb, hc⟩ := hcells.resolve_left (by omega)
      have HC := Lib.hid hc
      have HVLEN := Lib.hid hj2
      obtain ⟨p0, p1, p2⟩ := hc 0 (by omega)
      simp only [Nat.zero_mul, Nat.add_zero] at p0 p1 p2
      obtain ⟨q0, q1, q2⟩ := hc 1 (by omega)
      simp only [Nat.one_mul, Nat.add_assoc, Nat.reduceAdd] at q0 q1 q2
      have HD : Hid (v = inV (vs.getD 0 Vl.z) (vs.drop 2) (tvV (eqV (vs.getD 0 Vl.z) (vs.getD 1 Vl.z)))) := Lib.hid (by rw [HV.out, dropVl (j := 1) (by omega), inV, orV_first])
      clear hc hcells hsv hvs2 HVS HO HVL HV hj2
      generalize vs.getD 0 Vl.z = v0 at *
      generalize vs.getD 1 Vl.z = v1 at *
      subst hu
      unfold maxLen at hcm
      have hlt2 : decide ((j : Int) < (len : Int)) = false := by simp; omega
      go_wp2_with fail
      have i0 : 0 < len := by omega
      have i1 : (1 : Int) < (len : Int) := by omega
      refine wp_region_new1 7 (.cells #[.int .i64 0, .int .i64 0, .string ⟨#[]⟩] 39) _ 7 (by kernel_rfl) (by kernel_rfl) rfl rfl (fun _ _ => by go_simp) ?_
      simp only [List.take_succ_cons, List.take_zero, List.drop_succ_cons, List.drop_zero]
      repeat (refine wpR_step (fun K hK => ?_); go_simp; first | (refine hK _ ?_; clear hK K) | (apply Exists.intro; refine ⟨fun _ => ?_, hK _ ?_⟩; ((go_at_call 43; exact (rEqual_calls _ _ _ _ _ _ _))); clear hK K))
      refine wpR_nil ?_
      intro B t hb1 hb2 hb3
      have eb := fun i => cells_of hb3 i
      have fb := fun i => free_of hb3 i
      clear hb3
      have nb1 : ¬ B = w.heap.size := by omega
      have nb2 : ¬ B = w.heap.size + 1 := by omega
      have nb3 : ¬ B = b := by omega
      go_wp2_with fail
      go_loopw [8] (fun i wr => ∃ (j : Nat) (acc : Vl), Cls x.val wr ∧ 2 ≤ j ∧ j ≤ len ∧ i = .int .i64 j ∧ B < wr.heap.size ∧ (wr.cell? ⟨B, 0, none⟩ = some (.int .i64 acc.k) ∧ wr.cell? ⟨B, 1, none⟩ = some (.int .i64 acc.n) ∧ wr.cell? ⟨B, 2, none⟩ = some (.string acc.s)) ∧ (wr.frozen? ⟨B, 0, none⟩ = false ∧ wr.frozen? ⟨B, 1, none⟩ = false ∧ wr.frozen? ⟨B, 2, none⟩ = false) ∧ v = inV v0 (vs.drop j) acc) (fun i _ => len - (intOf i).toNat)
      case atStart =>
        refine ⟨2, tvV (eqV v0 v1), Cls.of ?_, by omega, by omega, rfl, ?_, ⟨?_, ?_, ?_⟩, ⟨?_, ?_, ?_⟩, HD.out⟩
        · repeat first | with_reducible exact Below.refl _ _ | with_reducible refine Below.setCell ?_ (by first | omega | (simp; done) | (simp; omega)) _ | with_reducible refine Below.alloc ?_ (by first | omega | (simp; done) | (simp; omega)) _ | with_reducible refine Below.drew ?_ | with_reducible refine Ext.on _ ?_ (by first | omega | (simp; done) | (simp; omega))
        · simp [go_sem]; omega
        all_goals simp [go_sem, tvV, eqV, eb, fb]
      case round =>
        clear q0 q1 q2 HD
        obtain ⟨m, acc, ⟨s, rfl⟩, hm2, hml, rfl, hF, ⟨c0, c1, c2⟩, ⟨f0, f1, f2⟩, he⟩ := hrel
        have HE := Lib.hid he
        clear he eb fb
        obtain ⟨d1, d2, d3, d4, d5⟩ := s.lts hb
        obtain ⟨s1, s2, s3, s4, s5⟩ := s.lts n1
        by_cases hlt3 : m < len
        · obtain ⟨r0, r1, r2⟩ := HC.out m hlt3
          have HN : Hid (inV v0 (vs.drop m) acc = inV v0 (vs.drop (m + 1)) (orV acc v0 (vs.getD m Vl.z))) := Lib.hid (by rw [dropVl (by have := HVLEN.out; omega)]; rfl)
          generalize vs.getD m Vl.z = vm at r0 r1 r2 HN
          go_wp2_with fail
          refine wp_region_ext_tail 10 (by kernel_rfl) (by kernel_rfl) ?_
          simp only [List.take_succ_cons, List.take_zero, List.drop_succ_cons, List.drop_zero]
          repeat (go_big_quiet_step (first | (go_at_call 43; exact Cls.call (rEqual_calls _ _ _ _ _ _ _)) | (go_at_call 49; exact Cls.call (rOr_calls _ _ _ _ _ _ _))))
          refine wpQuiet_nil ?_
          rintro _ ⟨x2, rfl⟩
          have xF := (x2.lts hF).1
          have k0 : (x2.val.cell? ⟨B, 0, none⟩).isSome = true := by rw [x2.cell 0 hF, c0]; rfl
          have h0 : x2.val.frozen? ⟨B, 0, none⟩ = false := by rw [x2.frozen 0 hF]; exact f0
          have k1 : (x2.val.cell? ⟨B, 1, none⟩).isSome = true := by rw [x2.cell 1 hF, c1]; rfl
          have h1 : x2.val.frozen? ⟨B, 1, none⟩ = false := by rw [x2.frozen 1 hF]; exact f1
          have k2 : (x2.val.cell? ⟨B, 2, none⟩).isSome = true := by rw [x2.cell 2 hF, c2]; rfl
          have h2 : x2.val.frozen? ⟨B, 2, none⟩ = false := by rw [x2.frozen 2 hF]; exact f2
          go_wp2_with fail
          go_roundw
          case rel =>
            refine ⟨m + 1, orV acc v0 vm, Cls.of ?_, by omega, by omega, by go_num, ?_, ⟨?_, ?_, ?_⟩, ⟨?_, ?_, ?_⟩, by rw [HE.out, HN.out]⟩
            · repeat first | with_reducible exact Below.refl _ _ | with_reducible refine Below.setCell ?_ (by first | omega | (simp; done) | (simp; omega)) _ | with_reducible refine Below.alloc ?_ (by first | omega | (simp; done) | (simp; omega)) _ | with_reducible refine Below.drew ?_ | with_reducible refine Ext.on _ ?_ (by first | omega | (simp; done) | (simp; omega))
            all_goals simp [go_sem, orV, tvV, eqV, trV, xF, k0, k1, k2, h0, h1, h2]
          case measure => simp [intOf]; omega
        · have HT2 : Hid (v = acc) := Lib.hid (by rw [HE.out, List.drop_of_length_le (by have := HVLEN.out; omega)]; rfl)
          go_wp2_with fail
          have z0 : (y.val.cell? ⟨w.heap.size + 1, 0, none⟩).isSome = true := by rw [y.cell 0 (by simp)]; simp [go_sem]
          have z1 : (y.val.cell? ⟨w.heap.size + 1, 1, none⟩).isSome = true := by rw [y.cell 1 (by simp)]; simp [go_sem]
          have z2 : (y.val.cell? ⟨w.heap.size + 1, 2, none⟩).isSome = true := by rw [y.cell 2 (by simp)]; simp [go_sem]
          have k0 : (s.val.cell? ⟨w.heap.size + 1, 0, none⟩).isSome = true := by rw [s.cell 0 n1, x.cell 0 m1]; exact z0
          have k1 : (s.val.cell? ⟨w.heap.size + 1, 1, none⟩).isSome = true := by rw [s.cell 1 n1, x.cell 1 m1]; exact z1
          have k2 : (s.val.cell? ⟨w.heap.size + 1, 2, none⟩).isSome = true := by rw [s.cell 2 n1, x.cell 2 m1]; exact z2
          refine ret_ex rfl ?_
          rw [HT2.out]
          simp [results, Tryd.results14, go_sem, k0, k1, k2]
          refine Cls.of ?_
          repeat first | with_reducible exact Below.refl _ _ | with_reducible refine Below.setCell ?_ (by first | omega | (simp; done) | (simp; omega)) _ | with_reducible refine Below.alloc ?_ (by first | omega | (simp; done) | (simp; omega)) _ | with_reducible refine Below.drew ?_ | with_reducible refine Ext.on _ ?_ (by first | omega | (simp; done) | (simp; omega))
end Go.Proofs.YtpddkljedhghkaaDoor
set_option linter.unusedVariables false
namespace Go.Proofs.YtpddkljedhghkaaDoor
open Go Go.RowKit
set_option maxRecDepth 20000 in
set_option maxHeartbeats 4000000 in
theorem reval_unknown (e : Ex) (a : Option Addr) (len cap : Nat) (ra : Option Addr) (rlen rcap : Nat) (w : World) (ho : e.op < 1 ∨ 29 ≤ e.op) :
    Calls Tryd.prog 14 #[.agg #[.int .i64 e.op, .int .i64 e.ty, .int .i64 e.num, .string e.text, .int .i64 e.col, .slice a len cap], .slice ra rlen rcap] w fun r w' => r = .returned (.agg #[.int .i64 Vl.z.k, .int .i64 Vl.z.n, .string Vl.z.s]) ∧ Cls w w' := by
  by_cases h1 : e.op < 1
  · have d1 : decide (e.op < 1) = true := by simpa using h1
    go_enter Tryd.func14, Tryd.ntmps14
    go_wp2_with fail
    refine ret_ex rfl ?_
    simp [results, Tryd.results14, go_sem, Vl.z]
    refine Cls.of ?_
    repeat first | with_reducible exact Below.refl _ _ | with_reducible refine Below.setCell ?_ (by first | omega | (simp; done) | (simp; omega)) _ | with_reducible refine Below.alloc ?_ (by first | omega | (simp; done) | (simp; omega)) _ | with_reducible refine Below.drew ?_ | with_reducible refine Ext.on _ ?_ (by first | omega | (simp; done) | (simp; omega))
  · have h2 : 29 ≤ e.op := by omega
    have d1 : decide (e.op < 1) = false := by simpa using h1
    have d2 : decide (28 < e.op) = true := by simp; omega
    go_enter Tryd.func14, Tryd.ntmps14
    go_wp2_with fail
    refine ret_ex rfl ?_
    simp [results, Tryd.results14, go_sem, Vl.z]
    refine Cls.of ?_
    repeat first | with_reducible exact Below.refl _ _ | with_reducible refine Below.setCell ?_ (by first | omega | (simp; done) | (simp; omega)) _ | with_reducible refine Below.alloc ?_ (by first | omega | (simp; done) | (simp; omega)) _ | with_reducible refine Below.drew ?_ | with_reducible refine Ext.on _ ?_ (by first | omega | (simp; done) | (simp; omega))
set_option maxRecDepth 20000 in
set_option maxHeartbeats 4000000 in
theorem reval_arity (e : Ex) (a : Option Addr) (len cap : Nat) (ra : Option Addr) (rlen rcap : Nat) (w : World) (ho1 : 1 ≤ e.op) (ho2 : e.op < 29) (htk : takesO e.op len = false) (hle : len ≤ cap) (hmax : cap ≤ maxLen) :
    Calls Tryd.prog 14 #[.agg #[.int .i64 e.op, .int .i64 e.ty, .int .i64 e.num, .string e.text, .int .i64 e.col, .slice a len cap], .slice ra rlen rcap] w fun r w' => r = .returned (.agg #[.int .i64 Vl.z.k, .int .i64 Vl.z.n, .string Vl.z.s]) ∧ Cls w w' := by
  have CK : Hid (∀ W, Calls Tryd.prog 41 #[.int .i64 e.op, .int .i64 (len : Nat)] W fun r w' => r = .returned (.bool false) ∧ Cls W w') := Lib.hid (fun W => by
    have := rkids_calls e.op len W ho1 ho2
    rw [htk] at this
    exact this)
  have d1 : decide (e.op < 1) = false := by simp; omega
  have d2 : decide (28 < e.op) = false := by simp; omega
  unfold maxLen at hmax
  clear htk
  go_enter Tryd.func14, Tryd.ntmps14
  go_wp2_with (go_at_call 41; ((with_reducible refine (CK.out _).mono ?_); rintro r _ ⟨rfl, y, rfl⟩))
  have z0 : (y.val.cell? ⟨w.heap.size + 1, 0, none⟩).isSome = true := by rw [y.cell 0 (by simp)]; simp [go_sem]
  have z1 : (y.val.cell? ⟨w.heap.size + 1, 1, none⟩).isSome = true := by rw [y.cell 1 (by simp)]; simp [go_sem]
  have z2 : (y.val.cell? ⟨w.heap.size + 1, 2, none⟩).isSome = true := by rw [y.cell 2 (by simp)]; simp [go_sem]
  refine ret_ex rfl ?_
  simp [results, Tryd.results14, go_sem, Vl.z]
  refine Cls.of ?_
  repeat first | with_reducible exact Below.refl _ _ | with_reducible refine Below.setCell ?_ (by first | omega | (simp; done) | (simp; omega)) _ | with_reducible refine Below.alloc ?_ (by first | omega | (simp; done) | (simp; omega)) _ | with_reducible refine Below.drew ?_ | with_reducible refine Ext.on _ ?_ (by first | omega | (simp; done) | (simp; omega))
end Go.Proofs.YtpddkljedhghkaaDoor
set_option linter.unusedVariables false
namespace Go.Proofs.YtpddkljedhghkaaDoor
open Go Go.RowKit
theorem REval_calls : ∀ e : Ex, REvalOf e := by
  refine Ex.ind fun e ih => ?_
  intro a len cap ok ra rlen rcap row w hk hf hsl hr
  have hlen := hk.len_eq
  have hEv := evalE_eq e row
  have hml : (e.kids.map (evalE · row)).length = len := by rw [List.length_map, hlen]
  have hs : ∀ v ∈ e.kids.map (evalE · row), v.s.size ≤ maxLen := by
    intro v hv
    obtain ⟨k, hkm, rfl⟩ := List.mem_map.1 hv
    obtain ⟨i, hi, rfl⟩ := List.mem_iff_getElem.1 hkm
    obtain ⟨a', len', cap', _, hf', hk'⟩ := hk.at_ (i := i) (by omega)
    have := evalE_size row hr.2.2.2.1 _ w ok a' len' cap' hk' hf'
    simpa [List.getD, hi] using this
  by_cases ho : e.op < 1 ∨ 29 ≤ e.op
  · have hz : evalE e row = Vl.z := by
      rw [hEv]; unfold opV
      rcases ho with h | h
      · rw [if_pos h]
      · rw [if_neg (by omega), if_pos h]
    rw [hz]
    exact reval_unknown e a len cap ra rlen rcap w ho
  cases htk : takesO e.op len with
  | false =>
    have hz : evalE e row = Vl.z := by
      rw [hEv]; unfold opV
      rw [if_neg (by omega), if_neg (by omega), if_pos (by rw [hml]; exact htk)]
    rw [hz]
    exact reval_arity e a len cap ra rlen rcap w (by omega) (by omega) htk hk.le hk.max
  | true =>
    have hz : evalE e row = (if e.op = 5 then colV e.col row else if e.op ≤ 4 then litV e.op e.num e.text
        else if e.op = 26 then (if trV ((e.kids.map (evalE · row)).getD 0 Vl.z) = 1 then (e.kids.map (evalE · row)).getD 1 Vl.z else (e.kids.map (evalE · row)).getD 2 Vl.z)
        else if e.op = 28 then inV ((e.kids.map (evalE · row)).getD 0 Vl.z) ((e.kids.map (evalE · row)).drop 1) (tvV 0)
        else if oneB e.op = true then unV e.op ((e.kids.map (evalE · row)).getD 0 Vl.z) else biV e.op ((e.kids.map (evalE · row)).getD 0 Vl.z) ((e.kids.map (evalE · row)).getD 1 Vl.z)) := by
      rw [hEv]; unfold opV
      rw [if_neg (by omega), if_neg (by omega), if_neg (by rw [hml, htk]; exact Bool.noConfusion)]
    have hop : e.op = 1 ∨ e.op = 2 ∨ e.op = 3 ∨ e.op = 4 ∨ e.op = 5 ∨ e.op = 6 ∨ e.op = 7 ∨ e.op = 8 ∨ e.op = 9 ∨ e.op = 10 ∨ e.op = 11 ∨ e.op = 12 ∨ e.op = 13 ∨ e.op = 14 ∨ e.op = 15 ∨ e.op = 16 ∨ e.op = 17 ∨ e.op = 18 ∨ e.op = 19 ∨ e.op = 20 ∨ e.op = 21 ∨ e.op = 22 ∨ e.op = 23 ∨ e.op = 24 ∨ e.op = 25 ∨ e.op = 26 ∨ e.op = 27 ∨ e.op = 28 := by omega
    rcases hop with h | h | h | h | h | h | h | h | h | h | h | h | h | h | h | h | h | h | h | h | h | h | h | h | h | h | h | h
    · -- 1
      have hl : len = 0 := by rw [h] at htk; simpa [takesO, oneB] using htk
      rw [h] at hz
      rw [h]
      exact reval_1 e ih a len cap ok ra rlen rcap row w hk hsl hr h hl hs _ (by rw [hz]; rfl)
    · -- 2
      have hl : len = 0 := by rw [h] at htk; simpa [takesO, oneB] using htk
      rw [h] at hz
      rw [h]
      exact reval_2 e ih a len cap ok ra rlen rcap row w hk hsl hr h hl hs _ (by rw [hz]; rfl)
    · -- 3
      have hl : len = 0 := by rw [h] at htk; simpa [takesO, oneB] using htk
      rw [h] at hz
      rw [h]
      exact reval_3 e ih a len cap ok ra rlen rcap row w hk hsl hr h hl hs _ (by rw [hz]; rfl)
    · -- 4
      have hl : len = 0 := by rw [h] at htk; simpa [takesO, oneB] using htk
      rw [h] at hz
      rw [h]
      exact reval_4 e ih a len cap ok ra rlen rcap row w hk hsl hr h hl hs _ (by rw [hz]; rfl)
    · -- 5
      have hl : len = 0 := by rw [h] at htk; simpa [takesO, oneB] using htk
      rw [h] at hz
      have hz5 : evalE e row = colV e.col row := by rw [hz]; rfl
      by_cases c1 : e.col < 0
      · rw [h]
        exact reval_5a e ih a len cap ok ra rlen rcap row w hk hsl hr h hl hs _ (by rw [hz5]; unfold colV; rw [if_pos c1]) c1
      by_cases c2 : (rlen : Int) ≤ e.col
      · rw [h]
        exact reval_5b e ih a len cap ok ra rlen rcap row w hk hsl hr h hl hs _ (by rw [hz5]; unfold colV; rw [if_neg c1, if_pos (by rw [hr.1]; exact c2)]) ⟨c1, c2⟩
      have hm : e.col = ((e.col.toNat : Nat) : Int) := by omega
      have hv : evalE e row = row.getD e.col.toNat Vl.z := by rw [hz5]; unfold colV; rw [if_neg c1, if_neg (by rw [hr.1]; exact c2)]
      generalize e.col.toNat = m at hm hv
      rw [h, hm]
      exact reval_5c m e ih a len cap ok ra rlen rcap row w hk hsl hr h hl hs _ hv (by omega)
    · -- 6
      have hl : len = 2 := by rw [h] at htk; simpa [takesO, oneB] using htk
      rw [h] at hz
      rw [h]
      exact reval_6 e ih a len cap ok ra rlen rcap row w hk hsl hr h hl hs _ (by rw [hz]; rfl)
    · -- 7
      have hl : len = 2 := by rw [h] at htk; simpa [takesO, oneB] using htk
      rw [h] at hz
      rw [h]
      exact reval_7 e ih a len cap ok ra rlen rcap row w hk hsl hr h hl hs _ (by rw [hz]; rfl)
    · -- 8
      have hl : len = 2 := by rw [h] at htk; simpa [takesO, oneB] using htk
      rw [h] at hz
      rw [h]
      exact reval_8 e ih a len cap ok ra rlen rcap row w hk hsl hr h hl hs _ (by rw [hz]; rfl)
    · -- 9
      have hl : len = 2 := by rw [h] at htk; simpa [takesO, oneB] using htk
      rw [h] at hz
      rw [h]
      exact reval_9 e ih a len cap ok ra rlen rcap row w hk hsl hr h hl hs _ (by rw [hz]; rfl)
    · -- 10
      have hl : len = 2 := by rw [h] at htk; simpa [takesO, oneB] using htk
      rw [h] at hz
      rw [h]
      exact reval_10 e ih a len cap ok ra rlen rcap row w hk hsl hr h hl hs _ (by rw [hz]; rfl)
    · -- 11
      have hl : len = 1 := by rw [h] at htk; simpa [takesO, oneB] using htk
      rw [h] at hz
      rw [h]
      exact reval_11 e ih a len cap ok ra rlen rcap row w hk hsl hr h hl hs _ (by rw [hz]; rfl)
    · -- 12
      have hl : len = 2 := by rw [h] at htk; simpa [takesO, oneB] using htk
      rw [h] at hz
      rw [h]
      exact reval_12 e ih a len cap ok ra rlen rcap row w hk hsl hr h hl hs _ (by rw [hz]; rfl)
    · -- 13
      have hl : len = 1 := by rw [h] at htk; simpa [takesO, oneB] using htk
      rw [h] at hz
      rw [h]
      by_cases c1 : ((e.kids.map (evalE · row)).getD 0 Vl.z).k = 3
      · exact reval_13a e ih a len cap ok ra rlen rcap row w hk hsl hr h hl hs _ (by rw [hz]; rfl) c1
      · exact reval_13b e ih a len cap ok ra rlen rcap row w hk hsl hr h hl hs _ (by rw [hz]; rfl) c1
    · -- 14
      have hl : len = 2 := by rw [h] at htk; simpa [takesO, oneB] using htk
      rw [h] at hz
      rw [h]
      exact reval_14 e ih a len cap ok ra rlen rcap row w hk hsl hr h hl hs _ (by rw [hz]; rfl)
    · -- 15
      have hl : len = 2 := by rw [h] at htk; simpa [takesO, oneB] using htk
      rw [h] at hz
      rw [h]
      exact reval_15 e ih a len cap ok ra rlen rcap row w hk hsl hr h hl hs _ (by rw [hz]; rfl)
    · -- 16
      have hl : len = 2 := by rw [h] at htk; simpa [takesO, oneB] using htk
      rw [h] at hz
      rw [h]
      exact reval_16 e ih a len cap ok ra rlen rcap row w hk hsl hr h hl hs _ (by rw [hz]; rfl)
    · -- 17
      have hl : len = 2 := by rw [h] at htk; simpa [takesO, oneB] using htk
      rw [h] at hz
      rw [h]
      exact reval_17 e ih a len cap ok ra rlen rcap row w hk hsl hr h hl hs _ (by rw [hz]; rfl)
    · -- 18
      have hl : len = 2 := by rw [h] at htk; simpa [takesO, oneB] using htk
      rw [h] at hz
      rw [h]
      exact reval_18 e ih a len cap ok ra rlen rcap row w hk hsl hr h hl hs _ (by rw [hz]; rfl)
    · -- 19
      have hl : len = 2 := by rw [h] at htk; simpa [takesO, oneB] using htk
      rw [h] at hz
      rw [h]
      exact reval_19 e ih a len cap ok ra rlen rcap row w hk hsl hr h hl hs _ (by rw [hz]; rfl)
    · -- 20
      have hl : len = 2 := by rw [h] at htk; simpa [takesO, oneB] using htk
      rw [h] at hz
      rw [h]
      exact reval_20 e ih a len cap ok ra rlen rcap row w hk hsl hr h hl hs _ (by rw [hz]; rfl)
    · -- 21
      have hl : len = 1 := by rw [h] at htk; simpa [takesO, oneB] using htk
      rw [h] at hz
      rw [h]
      exact reval_21 e ih a len cap ok ra rlen rcap row w hk hsl hr h hl hs _ (by rw [hz]; rfl)
    · -- 22
      have hl : len = 2 := by rw [h] at htk; simpa [takesO, oneB] using htk
      rw [h] at hz
      rw [h]
      exact reval_22 e ih a len cap ok ra rlen rcap row w hk hsl hr h hl hs _ (by rw [hz]; rfl)
    · -- 23
      have hl : len = 2 := by rw [h] at htk; simpa [takesO, oneB] using htk
      rw [h] at hz
      rw [h]
      exact reval_23 e ih a len cap ok ra rlen rcap row w hk hsl hr h hl hs _ (by rw [hz]; rfl)
    · -- 24
      have hl : len = 1 := by rw [h] at htk; simpa [takesO, oneB] using htk
      rw [h] at hz
      rw [h]
      exact reval_24 e ih a len cap ok ra rlen rcap row w hk hsl hr h hl hs _ (by rw [hz]; rfl)
    · -- 25
      have hl : len = 1 := by rw [h] at htk; simpa [takesO, oneB] using htk
      rw [h] at hz
      rw [h]
      exact reval_25 e ih a len cap ok ra rlen rcap row w hk hsl hr h hl hs _ (by rw [hz]; rfl)
    · -- 26
      have hl : len = 3 := by rw [h] at htk; simpa [takesO, oneB] using htk
      rw [h] at hz
      rw [h]
      by_cases c1 : trV ((e.kids.map (evalE · row)).getD 0 Vl.z) = 1
      · exact reval_26a e ih a len cap ok ra rlen rcap row w hk hsl hr h hl hs _ (by rw [hz]; rfl) c1
      · exact reval_26b e ih a len cap ok ra rlen rcap row w hk hsl hr h hl hs _ (by rw [hz]; rfl) c1
    · -- 27
      have hl : len = 2 := by rw [h] at htk; simpa [takesO, oneB] using htk
      rw [h] at hz
      rw [h]
      by_cases c1 : ((e.kids.map (evalE · row)).getD 0 Vl.z).k = 0
      · exact reval_27a e ih a len cap ok ra rlen rcap row w hk hsl hr h hl hs _ (by rw [hz]; rfl) c1
      · exact reval_27b e ih a len cap ok ra rlen rcap row w hk hsl hr h hl hs _ (by rw [hz]; rfl) c1
    · -- 28
      have hl : 2 ≤ len := by rw [h] at htk; simpa [takesO, oneB] using htk
      rw [h] at hz
      rw [h]
      exact reval_28 e ih a len cap ok ra rlen rcap row w hk hsl hr h hl hs _ (by rw [hz]; rfl)
end Go.Proofs.YtpddkljedhghkaaDoor
