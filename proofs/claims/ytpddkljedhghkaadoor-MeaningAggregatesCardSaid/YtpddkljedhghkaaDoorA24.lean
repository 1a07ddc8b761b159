/-
  The value of an aggregate over rows: the reference's Aggregate.
-/
import Derived.Test.YtpddkljedhghkaaDoorA17
import Derived.Test.YtpddkljedhghkaaDoorA23
import Derived.Test.YtpddkljedhghkaaDoorA22
set_option linter.unusedVariables false
namespace Go.Proofs.YtpddkljedhghkaaDoor.BG
open Go Go.RowKit
theorem cells_new3 (w : World) (o : Obj) (l : List Value) (t : TypeId) (m : Nat) (hm : w.heap.size = m) : ∀ j u, l[j]? = some u → ((w.alloc o).alloc (.cells l.toArray t)).cell? ((⟨m + 1, 0, none⟩ : Addr).add j) = some u := by
  subst hm
  exact cells_new2 w o l t
theorem ones_snoc (l : List Vl) (v : Vl) : ones (l ++ [v]) = ones l ++ [[v]] := by simp [ones]
theorem row_one {w : World} {a : Option Addr} {n : Nat} {R : List Rw} {l : List Vl} (h : Rws w a n R) (he : vss R = ones l) {j : Nat} (hj : j < n) : ∃ b off b2 off2 c2, a = some ⟨b, off, none⟩ ∧ b < w.heap.size ∧ w.cell? ⟨b, off + j, none⟩ = some (.slice (some ⟨b2, off2, none⟩) 1 c2) ∧ b2 < w.heap.size ∧ w.cell? ⟨b2, off2, none⟩ = some (.int .i64 (l.getD j Vl.z).k) ∧ w.cell? ⟨b2, off2 + 1, none⟩ = some (.int .i64 (l.getD j Vl.z).n) ∧ w.cell? ⟨b2, off2 + 2, none⟩ = some (.string (l.getD j Vl.z).s) := by
  obtain ⟨b, off, ea, hb, hcell⟩ := h.at_.resolve_left (by omega)
  have hll : l.length = n := by
    have := congrArg List.length he
    rw [vss_len, h.ln] at this
    simpa [ones] using this.symm
  have hok := h.get j
  have hv : (R.getD j default).vs = [l.getD j Vl.z] := by
    have h1 : (vss R).getD j [] = (ones l).getD j [] := by rw [he]
    rw [vss_getD] at h1
    rw [h1]
    simp [ones, List.getD, hll, hj]
  have hcj := hcell j hj
  generalize R.getD j default = u at *
  obtain ⟨ua, ul, uc, uv⟩ := u
  simp only at hv
  subst hv
  have hul : ul = 1 := by have := hok.holds.1; simpa using this.symm
  subst hul
  obtain ⟨b2, off2, ea2, hb2, hc2⟩ := hok.holds.2.resolve_left (by show ¬ (1 = 0); decide)
  simp only at ea2
  subst ea2
  obtain ⟨p0, p1, p2⟩ := hc2 0 (by show 0 < 1; omega)
  simp only [Nat.zero_mul, Nat.add_zero, List.getD_cons_zero] at p0 p1 p2
  exact ⟨b, off, b2, off2, uc, ea, hb, hcj, hb2, p0, p1, p2⟩
theorem newRow_ok (S : World) (v : Vl) (o2 : Obj) (m : Nat) (ty : TypeId) (hm : S.heap.size = m) : Rw.Ok ((S.alloc (.cells #[.int .i64 v.k, .int .i64 v.n, .string v.s] ty)).alloc o2) ⟨some ⟨m, 0, none⟩, 1, 1, [v]⟩ := by
  subst hm
  have hb : ((S.alloc (.cells #[.int .i64 v.k, .int .i64 v.n, .string v.s] ty)).alloc o2).heap[S.heap.size]? = some (.cells #[.int .i64 v.k, .int .i64 v.n, .string v.s] ty) := by
    rw [(((Below.refl _ _).alloc (Nat.le_refl _) _) : Below (S.alloc (.cells #[.int .i64 v.k, .int .i64 v.n, .string v.s] ty)).heap.size (S.alloc (.cells #[.int .i64 v.k, .int .i64 v.n, .string v.s] ty)) ((S.alloc (.cells #[.int .i64 v.k, .int .i64 v.n, .string v.s] ty)).alloc o2)).block S.heap.size (by simp)]
    exact heap_alloc_new S _
  obtain ⟨h0, _, _, _, c0, c1, c2⟩ := three_z hb
  refine ⟨⟨rfl, .inr ⟨S.heap.size, 0, rfl, h0, fun i hi => ?_⟩⟩, Nat.le_refl _, by unfold maxLen; show 1 ≤ _; omega, by show 1 ≤ 10000; omega⟩
  have hi2 : i < 1 := hi
  obtain rfl : i = 0 := by omega
  exact ⟨c0, c1, c2⟩
set_option maxHeartbeats 16000000 in
set_option maxRecDepth 20000 in
theorem rAggregate_calls (f : Int) (e : Ex) (ka : Option Addr) (kl kc : Nat) (ok : Nat → Prop) (a : Option Addr) (n c : Nat) (L : List (List Vl)) (w : World) (hk : Kids w ok ka kl kc e.kids) (hf : e.fine) (hsl : Slim e) (h : RL w a n c L) (hn : n ≤ 10000) :
    Calls Tryd.prog 26 #[.agg #[.int .i64 f, .int .i64 e.op, .int .i64 e.ty, .int .i64 e.num, .string e.text, .int .i64 e.col, .slice ka kl kc], .slice a n c] w fun r w' => r = .returned (.agg (vlC (aggF f n (srtV (knownL e L)))).toArray) ∧ Cls w w' := by
  obtain ⟨i0, hi, hz0, hz1, hz2⟩ := info_parts infoR
  have hkm := hk.max
  have hkl := hk.le
  have hnc := h.le
  have hcm := h.cp
  unfold maxLen at hkm hcm
  have HNK := Lib.hid (knownL_nOk (h.nOk hk hf))
  have hkn : (srtV (knownL e L)).length ≤ 10000 := by
    have h1 := (srtV_perm (knownL e L)).length_eq
    have h2 := knownL_len e L
    have := h.ln
    omega
  have HLN := Lib.hid h.ln
  have HAT := Lib.hid h.at_
  have CE : Hid (∀ j, j < n → ∀ (ra : Option Addr) (rc : Nat) (W : World), Below w.heap.size w W → RowIs w ra (L.getD j []).length rc (L.getD j []) → Calls Tryd.prog 14 #[.agg #[.int .i64 e.op, .int .i64 e.ty, .int .i64 e.num, .string e.text, .int .i64 e.col, .slice ka kl kc], .slice ra (L.getD j []).length rc] W fun r w' => r = .returned (.agg #[.int .i64 (evalE e (L.getD j [])).k, .int .i64 (evalE e (L.getD j [])).n, .string (evalE e (L.getD j [])).s]) ∧ Cls W w') := Lib.hid fun j hj ra rc W hW hr => REval_calls e ka kl kc ok ra _ rc _ W (hk.later hW) hf hsl (hr.later hW)
  have HKL := Lib.hid (knownL_len e)
  clear h hk hf hsl
  have hbl1 : ((w.alloc (.cells #[.int .i64 f, .int .i64 e.op, .int .i64 e.ty, .int .i64 e.num, .string e.text, .int .i64 e.col, .slice ka kl kc] 67)).alloc (.cells #[.int .i64 0, .int .i64 0, .string ⟨#[]⟩] 39)).heap[w.heap.size]? = some (.cells #[.int .i64 f, .int .i64 e.op, .int .i64 e.ty, .int .i64 e.num, .string e.text, .int .i64 e.col, .slice ka kl kc] 67) := by
    rw [(((Below.refl _ _).alloc (Nat.le_refl _) _) : Below (w.alloc (.cells #[.int .i64 f, .int .i64 e.op, .int .i64 e.ty, .int .i64 e.num, .string e.text, .int .i64 e.col, .slice ka kl kc] 67)).heap.size (w.alloc (.cells #[.int .i64 f, .int .i64 e.op, .int .i64 e.ty, .int .i64 e.num, .string e.text, .int .i64 e.col, .slice ka kl kc] 67)) ((w.alloc (.cells #[.int .i64 f, .int .i64 e.op, .int .i64 e.ty, .int .i64 e.num, .string e.text, .int .i64 e.col, .slice ka kl kc] 67)).alloc (.cells #[.int .i64 0, .int .i64 0, .string ⟨#[]⟩] 39))).block w.heap.size (by simp)]
    exact heap_alloc_new w _
  have hbl2 : ((w.alloc (.cells #[.int .i64 f, .int .i64 e.op, .int .i64 e.ty, .int .i64 e.num, .string e.text, .int .i64 e.col, .slice ka kl kc] 67)).alloc (.cells #[.int .i64 0, .int .i64 0, .string ⟨#[]⟩] 39)).heap[w.heap.size + 1]? = some (.cells #[.int .i64 0, .int .i64 0, .string ⟨#[]⟩] 39) := by
    have := heap_alloc_new (w.alloc (.cells #[.int .i64 f, .int .i64 e.op, .int .i64 e.ty, .int .i64 e.num, .string e.text, .int .i64 e.col, .slice ka kl kc] 67)) (.cells #[.int .i64 0, .int .i64 0, .string ⟨#[]⟩] 39)
    simpa using this
  have HBL1 := Lib.hid hbl1
  have HBL2 := Lib.hid hbl2
  have HB0 : Hid (Below w.heap.size w ((w.alloc (.cells #[.int .i64 f, .int .i64 e.op, .int .i64 e.ty, .int .i64 e.num, .string e.text, .int .i64 e.col, .slice ka kl kc] 67)).alloc (.cells #[.int .i64 0, .int .i64 0, .string ⟨#[]⟩] 39))) := Lib.hid (by repeat first | with_reducible exact Below.refl _ _ | with_reducible refine Below.setCell ?_ (by first | omega | (simp; done) | (simp; omega)) _ | with_reducible refine Below.alloc ?_ (by first | omega | (simp; done) | (simp; omega)) _ | with_reducible refine Below.drew ?_ | with_reducible refine Ext.on _ ?_ (by first | omega | (simp; done) | (simp; omega)))
  have h0s : ((w.alloc (.cells #[.int .i64 f, .int .i64 e.op, .int .i64 e.ty, .int .i64 e.num, .string e.text, .int .i64 e.col, .slice ka kl kc] 67)).alloc (.cells #[.int .i64 0, .int .i64 0, .string ⟨#[]⟩] 39)).heap.size ≥ w.heap.size + 2 := by simp
  clear hbl1 hbl2
  obtain ⟨z0, z1, z2, z3, z4, z5, z6⟩ := three_z HBL2.out
  by_cases h1 : f = 1
  · subst h1
    have HR : Hid (aggF 1 n (srtV (knownL e L)) = ⟨1, n, ⟨#[]⟩⟩) := Lib.hid rfl
    go_enter Tryd.func26, Tryd.ntmps26
    go_wp2_with fail
    refine ret_ex rfl ?_
    simp [results, Tryd.results26, go_sem]
    exact ⟨by rw [HR.out]; try rfl, Cls.of (by (repeat first | with_reducible exact Below.refl _ _ | with_reducible refine Below.setCell ?_ (by first | omega | (simp; done) | (simp; omega)) _ | with_reducible refine Below.alloc ?_ (by first | omega | (simp; done) | (simp; omega)) _ | with_reducible refine Below.drew ?_ | with_reducible refine Ext.on _ ?_ (by first | omega | (simp; done) | (simp; omega))); try exact HB0.out)⟩
  have d1 : (f == 1) = false := by simp [h1]
  go_enter Tryd.func26, Tryd.ntmps26
  go_wp2_with fail
  generalize ((w.alloc (.cells #[.int .i64 f, .int .i64 e.op, .int .i64 e.ty, .int .i64 e.num, .string e.text, .int .i64 e.col, .slice ka kl kc] 67)).alloc (.cells #[.int .i64 0, .int .i64 0, .string ⟨#[]⟩] 39)) = W0 at *
  go_loopw [5, 6] (fun u i wr => ∃ (j : Nat) (R : List Rw), j ≤ n ∧ i = .int .i64 j ∧ Hid (RowsOwn wr W0.heap.size u R) ∧ Hid (vss R = ones (knownL e (L.take j))) ∧ Cls W0 wr) (fun _ i _ => n - (intOf i).toNat)
  case atStart => exact ⟨0, [], Nat.zero_le _, rfl, Lib.hid (RowsOwn.start _ _), Lib.hid rfl, Cls.of (Below.refl _ _)⟩
  case round =>
    obtain ⟨j, R, hj, rfl, hR, hE, x, rfl⟩ := hrel
    have xs := x.size
    have HBX : Hid (Below w.heap.size w x.val) := Lib.hid (HB0.out.trans (x.below.mono (by omega)))
    have hRl : R.length ≤ 10000 := by
      have h1 := congrArg List.length hE.out
      have h2 := HKL.out (L.take j)
      rw [vss_len] at h1
      rw [List.length_take] at h2
      simp [ones] at h1
      omega
    have HS1 := Lib.hid ((x.below.block _ (by omega)).trans HBL1.out)
    have HXB := Lib.hid x.below
    generalize x.val = X at *
    obtain ⟨b0, g0, g1, g2, g3, g4, g5, g6⟩ := seven_z HS1.out
    by_cases hlt : j < n
    · obtain ⟨b, off, ra, rc, ea, hb, q0, hrow⟩ := HAT.out j hlt
      subst ea
      rw [← HBX.out.cell (p := ⟨b, _, none⟩) hb] at q0
      have hb1 : b < X.heap.size := by omega
      have C1 := Lib.hid (fun W hW => CE.out j hlt ra rc W hW hrow)
      obtain ⟨hn1, hn2⟩ := knownL_next e (L := L) (j := j) (by rw [HLN.out]; exact hlt)
      have HN1 := Lib.hid hn1
      have HN2 := Lib.hid hn2
      have hrl := hrow.2.1
      have hrm := hrow.2.2.1
      unfold maxLen at hrm
      clear hrow hn1 hn2
      generalize evalE e (L.getD j []) = v at *
      generalize L.getD j [] = rw_ at *
      obtain ⟨vk, vn, vs⟩ := v
      simp only at C1 HN1 HN2
      have hltI : (j : Int) < (n : Int) := by omega
      go_wp2_with fail
      refine wp_region_new1 7 (.cells #[.int .i64 0, .int .i64 0, .string ⟨#[]⟩] 39) _ 7 (by kernel_rfl) (by kernel_rfl) rfl rfl (fun _ _ => by go_simp) ?_
      simp only [List.take_succ_cons, List.take_zero, List.drop_succ_cons, List.drop_zero]
      repeat (refine wpR_step (fun K hK => ?_); go_simp; first | (refine hK _ ?_; clear hK K) | (apply Exists.intro; refine ⟨fun z => ?_, hK _ ?_⟩; ((go_at_call 14; exact (C1.out _ (z.on HBX.out (by omega))))); clear hK K))
      refine wpR_nil ?_
      intro B t hb1 hb2 hb3
      have HBT := Lib.hid t.below
      have hts := t.size
      generalize t.val = Tv at *
      obtain ⟨e0, e1, e2, e3, e4, e5, e6⟩ := three_z hb3
      clear hb3
      have HBS : Hid (Below X.heap.size X (((Tv.setCell ⟨B, 0, none⟩ (.int .i64 vk)).setCell ⟨B, 1, none⟩ (.int .i64 vn)).setCell ⟨B, 2, none⟩ (.string vs))) := Lib.hid (Below.setCell (Below.setCell (Below.setCell HBT.out hb1 _) hb1 _) hb1 _)
      have HSZ : Hid (X.heap.size ≤ (((Tv.setCell ⟨B, 0, none⟩ (.int .i64 vk)).setCell ⟨B, 1, none⟩ (.int .i64 vn)).setCell ⟨B, 2, none⟩ (.string vs)).heap.size) := Lib.hid (by simp; omega)
      by_cases hv0 : vk = 0
      · subst hv0
        have HS : Hid (vss R = ones (knownL e (L.take (j + 1)))) := Lib.hid (by rw [HN1.out rfl]; exact hE.out)
        go_wp2_with fail
        go_roundw
        case rel => exact ⟨j + 1, R, by omega, by go_num, Lib.hid (hR.out.later HBS.out), HS, Cls.of (HXB.out.trans (HBS.out.mono xs))⟩
        case measure => simp [intOf]; omega
      · have HS : Hid (∀ x : Rw, x.vs = [⟨vk, vn, vs⟩] → vss (R ++ [x]) = ones (knownL e (L.take (j + 1)))) := Lib.hid fun x hx => by rw [HN2.out hv0, ones_snoc, ← hE.out]; simp [vss, hx]
        have d2 : (vk == 0) = false := by simp [hv0]
        have d3 : (vk != 0) = true := by simp [hv0]
        clear hv0
        go_wp2_with (at_builtin; refine wpList_append_own_at _ rfl _ _ 68 rfl W0.heap.size 32 i0 (.slice none 0 0) 1 24 Tryd.underlying68 hi hz0 hz1 hz2 rfl (by decide) _ _ _ rfl (own_later' hR.out.1 ((HBS.out.alloc HSZ.out _).alloc (by have := HSZ.out; simp; omega) _)) ⟨Tv.heap.size + 1, 0, none⟩ 1 1 [.slice (some ⟨Tv.heap.size, 0, none⟩) 1 1] rfl rfl (cells_new3 _ _ [.slice (some ⟨Tv.heap.size, 0, none⟩) 1 1] _ Tv.heap.size (by simp)) (flatR_one [(⟨some ⟨Tv.heap.size, 0, none⟩, 1, 1, [⟨vk, vn, vs⟩]⟩ : Rw)]) (by unfold maxLen; omega) (by omega) (by simp; omega) ?_; intro v1 w4 hown4 hg4 _ hat4; have HR4 : Hid (RowsOwn w4 W0.heap.size v1 (R ++ [(⟨some ⟨Tv.heap.size, 0, none⟩, 1, 1, [⟨vk, vn, vs⟩]⟩ : Rw)])) := Lib.hid (hR.out.snoc (r' := ⟨some ⟨Tv.heap.size, 0, none⟩, 1, 1, [⟨vk, vn, vs⟩]⟩) ((HBS.out.alloc HSZ.out _).alloc (by have := HSZ.out; simp; omega) _) (newRow_ok (((Tv.setCell ⟨B, 0, none⟩ (.int .i64 vk)).setCell ⟨B, 1, none⟩ (.int .i64 vn)).setCell ⟨B, 2, none⟩ (.string vs)) ⟨vk, vn, vs⟩ _ Tv.heap.size _ (by simp)) (fun x hx => by obtain rfl := Option.some.inj hx; show X.heap.size ≤ Tv.heap.size; omega) hown4 hg4 hat4); have HB4 : Hid (Below W0.heap.size W0 w4) := Lib.hid (Below.grown (((HXB.out.trans (HBS.out.mono xs)).alloc (by simp; omega) _).alloc (by simp; omega) _) hg4 (by simp; omega) (fun k hk => (hR.out.1.lt k hk).1)); clear hown4 hg4 hat4)
        go_roundw
        case rel => exact ⟨j + 1, _, by omega, by go_num, HR4, Lib.hid (HS.out _ rfl), Cls.of HB4.out⟩
        case measure => simp [intOf]; omega
    · have hEL : vss R = ones (knownL e L) := by rw [hE.out, List.take_of_length_le (by rw [HLN.out]; omega)]
      obtain ⟨a', c', rfl, hc1, hc2, hrw⟩ := hR.out.rws
      have hRK : R.length = (srtV (knownL e L)).length := by
        rw [(srtV_perm (knownL e L)).length_eq]
        have := congrArg List.length hEL
        rw [vss_len] at this
        simpa [ones] using this
      have CA : Hid (Calls Tryd.prog 70 #[.slice a' R.length c'] X fun r w' => ∃ (a2 : Option Addr) (c2 : Nat) (R2 : List Rw), r = .returned (.slice a2 (srtV (knownL e L)).length c2) ∧ Rws w' a2 (srtV (knownL e L)).length R2 ∧ (srtV (knownL e L)).length ≤ c2 ∧ c2 ≤ maxLen ∧ vss R2 = ones (srtV (knownL e L)) ∧ Below X.heap.size X w') := Lib.hid ((rCanonical_calls R.length a' c' R X hrw hRl hc1 hc2).mono fun r w' ⟨a2, c2, R2, hr, h1, h2, h3, h4, h5, _, h6⟩ => by
        rw [hRK] at hr h1 h2
        refine ⟨a2, c2, R2, hr, h1, h2, h3, asc_rows ?_ h5 (srtV_asc _), h6⟩
        rw [hEL] at h4
        exact h4.trans ((srtV_perm (knownL e L)).symm.map _))
      have HAS := Lib.hid (srtV_asc (knownL e L))
      have HS2 := Lib.hid ((HXB.out.block _ z0).trans HBL2.out)
      obtain ⟨k0, k1, k2, k3, k4, k5, k6⟩ := three_z HS2.out
      have hrlen : R.length ≤ c' := hc1
      unfold maxLen at hc2
      clear hE hEL hR hrw hRK CE HAT HKL
      generalize hKe : srtV (knownL e L) = K at *
      have HKE := Lib.hid hKe
      clear hKe
      generalize R.length = rn at *
      have hltI : ¬ ((j : Int) < (n : Int)) := by omega
      by_cases h2 : f = 2
      · subst h2
        have HR : Hid (aggF 2 n K = ⟨1, K.length, ⟨#[]⟩⟩) := Lib.hid rfl
        go_wp2_with (go_at_call 70; ((with_reducible refine CA.out.mono ?_); rintro r w4 ⟨a2, c2, R2, rfl, hr2, hle2, hmx2, he2, hb4⟩; obtain ⟨y, rfl⟩ : ∃ y : Ext X, w4 = y.val := ⟨⟨w4, hb4⟩, rfl⟩; have ys := y.size; have HE2 := Lib.hid he2; have HR2 := Lib.hid hr2; clear hr2 he2 hb4; obtain ⟨l1, l2, l3, l4, l5⟩ := y.lts b0; obtain ⟨l6, l7, l8, l9, l10⟩ := y.lts k0; have HY := Lib.hid ((y.below.block _ k0).trans HS2.out); obtain ⟨q0, q1, q2, q3, q4, q5, q6⟩ := three_z HY.out))
        refine ret_ex rfl ?_
        simp [results, Tryd.results26, go_sem, q4, q5, q6]
        exact ⟨by rw [HKE.out, HR.out]; try rfl, Cls.of (by (repeat first | with_reducible exact Below.refl _ _ | with_reducible refine Below.setCell ?_ (by first | omega | (simp; done) | (simp; omega)) _ | with_reducible refine Below.alloc ?_ (by first | omega | (simp; done) | (simp; omega)) _ | with_reducible refine Below.drew ?_ | with_reducible refine Ext.on _ ?_ (by first | omega | (simp; done) | (simp; omega))); try exact HBX.out)⟩
      by_cases h3 : f = 3
      · subst h3
        have HR : Hid (aggF 3 n K = ⟨1, runsV K K.length, ⟨#[]⟩⟩) := Lib.hid rfl
        go_wp2_with (first | (go_at_call 70; ((with_reducible refine CA.out.mono ?_); rintro r w4 ⟨a2, c2, R2, rfl, hr2, hle2, hmx2, he2, hb4⟩; obtain ⟨y, rfl⟩ : ∃ y : Ext X, w4 = y.val := ⟨⟨w4, hb4⟩, rfl⟩; have ys := y.size; have HE2 := Lib.hid he2; have HR2 := Lib.hid hr2; clear hr2 he2 hb4; obtain ⟨l1, l2, l3, l4, l5⟩ := y.lts b0; obtain ⟨l6, l7, l8, l9, l10⟩ := y.lts k0; have HY := Lib.hid ((y.below.block _ k0).trans HS2.out); obtain ⟨q0, q1, q2, q3, q4, q5, q6⟩ := three_z HY.out)) | (go_at_call 71; ((with_reducible refine (rDistinct_calls a2 K.length c2 R2 y.val HR2.out hkn hle2 hmx2).mono ?_); rintro r w5 ⟨a3, c3, R3, rfl, hr3, _, _, hcm3, hb5⟩; obtain ⟨y3, rfl⟩ : ∃ y3 : Ext y.val, w5 = y3.val := ⟨⟨w5, hb5⟩, rfl⟩; have ys3 := y3.size; have h3len : R3.length = runsV K K.length := (by rw [← vss_len]; rw [HE2.out] at hcm3; exact runs_of HAS.out hcm3); have HL3 := Lib.hid h3len; clear hr3 hcm3 hb5 h3len; obtain ⟨n6, n7, n8, n9, n10⟩ := y3.lts l6; have HY3 := Lib.hid ((y3.below.block _ l6).trans HY.out); obtain ⟨p0, p1, p2, p3, p4, p5, p6⟩ := three_z HY3.out)))
        refine ret_ex rfl ?_
        simp [results, Tryd.results26, go_sem, p4, p5, p6]
        exact ⟨by rw [HKE.out, HR.out, ← HL3.out]; try rfl, Cls.of (by (repeat first | with_reducible exact Below.refl _ _ | with_reducible refine Below.setCell ?_ (by first | omega | (simp; done) | (simp; omega)) _ | with_reducible refine Below.alloc ?_ (by first | omega | (simp; done) | (simp; omega)) _ | with_reducible refine Below.drew ?_ | with_reducible refine Ext.on _ ?_ (by first | omega | (simp; done) | (simp; omega))); try exact HBX.out)⟩
      by_cases h4 : f = 4
      · subst h4
        have HR : Hid (aggF 4 n K = sumVl K) := Lib.hid rfl
        have CS : Hid (∀ (a2 : Option Addr) (c2 : Nat) (R2 : List Rw) W, Rws W a2 K.length R2 → K.length ≤ c2 → c2 ≤ maxLen → vss R2 = ones K → Calls Tryd.prog 72 #[.slice a2 K.length c2] W fun r w' => r = .returned (.agg (vlC (sumVl K)).toArray) ∧ Cls W w') := Lib.hid fun a2 c2 R2 W h1 h2 h3 h4 => rsum_calls a2 K.length c2 R2 K W h1 h2 h3 h4 HNK.out hkn
        generalize sumVl K = sv at *
        obtain ⟨sk, sn, ss⟩ := sv
        simp only [vlC] at CS
        go_wp2_with (first | (go_at_call 70; ((with_reducible refine CA.out.mono ?_); rintro r w4 ⟨a2, c2, R2, rfl, hr2, hle2, hmx2, he2, hb4⟩; obtain ⟨y, rfl⟩ : ∃ y : Ext X, w4 = y.val := ⟨⟨w4, hb4⟩, rfl⟩; have ys := y.size; have HE2 := Lib.hid he2; have HR2 := Lib.hid hr2; clear hr2 he2 hb4; obtain ⟨l1, l2, l3, l4, l5⟩ := y.lts b0; obtain ⟨l6, l7, l8, l9, l10⟩ := y.lts k0; have HY := Lib.hid ((y.below.block _ k0).trans HS2.out); obtain ⟨q0, q1, q2, q3, q4, q5, q6⟩ := three_z HY.out)) | (go_at_call 72; ((with_reducible refine (CS.out a2 c2 R2 y.val HR2.out hle2 hmx2 HE2.out).mono ?_); rintro r _ ⟨rfl, t, rfl⟩; have ts := t.size; obtain ⟨n6, n7, n8, n9, n10⟩ := t.lts l6; have HY3 := Lib.hid ((t.below.block _ l6).trans HY.out); obtain ⟨p0, p1, p2, p3, p4, p5, p6⟩ := three_z HY3.out)))
        refine ret_ex rfl ?_
        simp [results, Tryd.results26, go_sem, p4, p5, p6]
        exact ⟨by rw [HKE.out, HR.out]; try rfl, Cls.of (by (repeat first | with_reducible exact Below.refl _ _ | with_reducible refine Below.setCell ?_ (by first | omega | (simp; done) | (simp; omega)) _ | with_reducible refine Below.alloc ?_ (by first | omega | (simp; done) | (simp; omega)) _ | with_reducible refine Below.drew ?_ | with_reducible refine Ext.on _ ?_ (by first | omega | (simp; done) | (simp; omega))); try exact HBX.out)⟩
      by_cases h5 : f = 5
      · subst h5
        by_cases hk0 : K.length = 0
        · have HR : Hid (aggF 5 n K = Vl.z) := Lib.hid (by show (if K.length = 0 then Vl.z else K.getD 0 Vl.z) = Vl.z; rw [if_pos hk0])
          rw [hk0] at CA
          go_wp2_with (go_at_call 70; ((with_reducible refine CA.out.mono ?_); rintro r w4 ⟨a2, c2, R2, rfl, hr2, hle2, hmx2, he2, hb4⟩; obtain ⟨y, rfl⟩ : ∃ y : Ext X, w4 = y.val := ⟨⟨w4, hb4⟩, rfl⟩; have ys := y.size; have HE2 := Lib.hid he2; have HR2 := Lib.hid hr2; clear hr2 he2 hb4; obtain ⟨l1, l2, l3, l4, l5⟩ := y.lts b0; obtain ⟨l6, l7, l8, l9, l10⟩ := y.lts k0; have HY := Lib.hid ((y.below.block _ k0).trans HS2.out); obtain ⟨q0, q1, q2, q3, q4, q5, q6⟩ := three_z HY.out))
          refine ret_ex rfl ?_
          simp [results, Tryd.results26, go_sem, q4, q5, q6]
          exact ⟨by rw [HKE.out, HR.out]; try rfl, Cls.of (by (repeat first | with_reducible exact Below.refl _ _ | with_reducible refine Below.setCell ?_ (by first | omega | (simp; done) | (simp; omega)) _ | with_reducible refine Below.alloc ?_ (by first | omega | (simp; done) | (simp; omega)) _ | with_reducible refine Below.drew ?_ | with_reducible refine Ext.on _ ?_ (by first | omega | (simp; done) | (simp; omega))); try exact HBX.out)⟩
        · have HR : Hid (aggF 5 n K = K.getD 0 Vl.z) := Lib.hid (by show (if K.length = 0 then Vl.z else K.getD 0 Vl.z) = _; rw [if_neg hk0])
          have hkp : 0 < K.length := by omega
          have hkI : (0 : Int) < (K.length : Int) := by omega
          clear hk0
          go_wp2_with (go_at_call 70; ((with_reducible refine CA.out.mono ?_); rintro r w4 ⟨a2, c2, R2, rfl, hr2, hle2, hmx2, he2, hb4⟩; obtain ⟨y, rfl⟩ : ∃ y : Ext X, w4 = y.val := ⟨⟨w4, hb4⟩, rfl⟩; have ys := y.size; have HE2 := Lib.hid he2; have HR2 := Lib.hid hr2; clear hr2 he2 hb4; obtain ⟨l1, l2, l3, l4, l5⟩ := y.lts b0; obtain ⟨l6, l7, l8, l9, l10⟩ := y.lts k0; have HY := Lib.hid ((y.below.block _ k0).trans HS2.out); obtain ⟨q0, q1, q2, q3, q4, q5, q6⟩ := three_z HY.out; obtain ⟨rb, roff, rb2, roff2, rc2, ea2, hrb, p0, hrb2, p1, p2, p3⟩ := row_one HR2.out HE2.out (j := 0) (by omega); generalize K.getD 0 Vl.z = kv at *; obtain ⟨kk, kn, ks⟩ := kv; subst ea2; (try simp only [Nat.add_zero] at p0)))
          refine ret_ex rfl ?_
          simp [results, Tryd.results26, go_sem, q4, q5, q6]
          exact ⟨by rw [HKE.out, HR.out]; try rfl, Cls.of (by (repeat first | with_reducible exact Below.refl _ _ | with_reducible refine Below.setCell ?_ (by first | omega | (simp; done) | (simp; omega)) _ | with_reducible refine Below.alloc ?_ (by first | omega | (simp; done) | (simp; omega)) _ | with_reducible refine Below.drew ?_ | with_reducible refine Ext.on _ ?_ (by first | omega | (simp; done) | (simp; omega))); try exact HBX.out)⟩
      by_cases h6 : f = 6
      · subst h6
        by_cases hk0 : K.length = 0
        · have HR : Hid (aggF 6 n K = Vl.z) := Lib.hid (by show (if K.length = 0 then Vl.z else K.getD (K.length - 1) Vl.z) = Vl.z; rw [if_pos hk0])
          rw [hk0] at CA
          go_wp2_with (go_at_call 70; ((with_reducible refine CA.out.mono ?_); rintro r w4 ⟨a2, c2, R2, rfl, hr2, hle2, hmx2, he2, hb4⟩; obtain ⟨y, rfl⟩ : ∃ y : Ext X, w4 = y.val := ⟨⟨w4, hb4⟩, rfl⟩; have ys := y.size; have HE2 := Lib.hid he2; have HR2 := Lib.hid hr2; clear hr2 he2 hb4; obtain ⟨l1, l2, l3, l4, l5⟩ := y.lts b0; obtain ⟨l6, l7, l8, l9, l10⟩ := y.lts k0; have HY := Lib.hid ((y.below.block _ k0).trans HS2.out); obtain ⟨q0, q1, q2, q3, q4, q5, q6⟩ := three_z HY.out))
          refine ret_ex rfl ?_
          simp [results, Tryd.results26, go_sem, q4, q5, q6]
          exact ⟨by rw [HKE.out, HR.out]; try rfl, Cls.of (by (repeat first | with_reducible exact Below.refl _ _ | with_reducible refine Below.setCell ?_ (by first | omega | (simp; done) | (simp; omega)) _ | with_reducible refine Below.alloc ?_ (by first | omega | (simp; done) | (simp; omega)) _ | with_reducible refine Below.drew ?_ | with_reducible refine Ext.on _ ?_ (by first | omega | (simp; done) | (simp; omega))); try exact HBX.out)⟩
        · have HR : Hid (aggF 6 n K = K.getD (K.length - 1) Vl.z) := Lib.hid (by show (if K.length = 0 then Vl.z else K.getD (K.length - 1) Vl.z) = _; rw [if_neg hk0])
          have hkp : 0 < K.length := by omega
          have hkI : (0 : Int) < (K.length : Int) := by omega
          clear hk0
          go_wp2_with (go_at_call 70; ((with_reducible refine CA.out.mono ?_); rintro r w4 ⟨a2, c2, R2, rfl, hr2, hle2, hmx2, he2, hb4⟩; obtain ⟨y, rfl⟩ : ∃ y : Ext X, w4 = y.val := ⟨⟨w4, hb4⟩, rfl⟩; have ys := y.size; have HE2 := Lib.hid he2; have HR2 := Lib.hid hr2; clear hr2 he2 hb4; obtain ⟨l1, l2, l3, l4, l5⟩ := y.lts b0; obtain ⟨l6, l7, l8, l9, l10⟩ := y.lts k0; have HY := Lib.hid ((y.below.block _ k0).trans HS2.out); obtain ⟨q0, q1, q2, q3, q4, q5, q6⟩ := three_z HY.out; obtain ⟨rb, roff, rb2, roff2, rc2, ea2, hrb, p0, hrb2, p1, p2, p3⟩ := row_one HR2.out HE2.out (j := (K.length - 1)) (by omega); generalize K.getD (K.length - 1) Vl.z = kv at *; obtain ⟨kk, kn, ks⟩ := kv; subst ea2; (try simp only [Nat.add_zero] at p0)))
          refine ret_ex rfl ?_
          simp [results, Tryd.results26, go_sem, q4, q5, q6]
          exact ⟨by rw [HKE.out, HR.out]; try rfl, Cls.of (by (repeat first | with_reducible exact Below.refl _ _ | with_reducible refine Below.setCell ?_ (by first | omega | (simp; done) | (simp; omega)) _ | with_reducible refine Below.alloc ?_ (by first | omega | (simp; done) | (simp; omega)) _ | with_reducible refine Below.drew ?_ | with_reducible refine Ext.on _ ?_ (by first | omega | (simp; done) | (simp; omega))); try exact HBX.out)⟩
      have HR : Hid (aggF f n K = Vl.z) := Lib.hid (by
        unfold aggF
        rw [if_neg h1, if_neg h2, if_neg h3, if_neg h4, if_neg h5, if_neg h6])
      have d2 : (f == 2) = false := by simp [h2]
      have d3 : (f == 3) = false := by simp [h3]
      have d4 : (f == 4) = false := by simp [h4]
      have d5 : (f == 5) = false := by simp [h5]
      have d6 : (f == 6) = false := by simp [h6]
      clear h1 h2 h3 h4 h5 h6
      go_wp2_with (go_at_call 70; ((with_reducible refine CA.out.mono ?_); rintro r w4 ⟨a2, c2, R2, rfl, hr2, hle2, hmx2, he2, hb4⟩; obtain ⟨y, rfl⟩ : ∃ y : Ext X, w4 = y.val := ⟨⟨w4, hb4⟩, rfl⟩; have ys := y.size; have HE2 := Lib.hid he2; have HR2 := Lib.hid hr2; clear hr2 he2 hb4; obtain ⟨l1, l2, l3, l4, l5⟩ := y.lts b0; obtain ⟨l6, l7, l8, l9, l10⟩ := y.lts k0; have HY := Lib.hid ((y.below.block _ k0).trans HS2.out); obtain ⟨q0, q1, q2, q3, q4, q5, q6⟩ := three_z HY.out))
      refine ret_ex rfl ?_
      simp [results, Tryd.results26, go_sem, q4, q5, q6]
      exact ⟨by rw [HKE.out, HR.out]; try rfl, Cls.of (by (repeat first | with_reducible exact Below.refl _ _ | with_reducible refine Below.setCell ?_ (by first | omega | (simp; done) | (simp; omega)) _ | with_reducible refine Below.alloc ?_ (by first | omega | (simp; done) | (simp; omega)) _ | with_reducible refine Below.drew ?_ | with_reducible refine Ext.on _ ?_ (by first | omega | (simp; done) | (simp; omega))); try exact HBX.out)⟩
end Go.Proofs.YtpddkljedhghkaaDoor.BG
