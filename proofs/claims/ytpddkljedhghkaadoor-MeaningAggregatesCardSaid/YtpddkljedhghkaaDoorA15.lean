/-
  The sum of the Ints of a list of rows of one value: the reference's sum. The reference's kids, and rows of values that a call makes. The values of an expression over rows that are not null, sorted: the program's known.
-/
import Derived.Test.YtpddkljedhghkaaDoorA14
import Derived.Test.YtpddkljedhghkaaDoorA13
import Derived.Maps.AppendAt
import Derived.OwnWalk
import Derived.Laws.Entries
import Derived.BigQuiet
import Derived.Test.YtpddkljedhghkaaDoorA11
set_option linter.unusedVariables false
namespace Go.Proofs.YtpddkljedhghkaaDoor.BG
open Go Go.RowKit
theorem td_spec (n : Int) : n = 1000000000000 * n.tdiv 1000000000000 + n.tmod 1000000000000 ∧ -1000000000000 < n.tmod 1000000000000 ∧ n.tmod 1000000000000 < 1000000000000 ∧ (0 ≤ n → 0 ≤ n.tmod 1000000000000) ∧ (n ≤ 0 → n.tmod 1000000000000 ≤ 0) := by
  have h1 := Int.mul_tdiv_add_tmod n 1000000000000
  have h2 := Int.natAbs_tmod n 1000000000000
  have h3 : (n.tmod 1000000000000).natAbs < 1000000000000 := by
    rw [h2]; exact Nat.mod_lt _ (by decide)
  refine ⟨by omega, by omega, by omega, fun h => ?_, fun h => ?_⟩
  · exact Int.tmod_nonneg _ h
  · have := Int.tmod_nonneg 1000000000000 (a := -n) (by omega)
    rw [Int.neg_tmod] at this
    omega
def ones (l : List Vl) : List Row := l.map fun v => [v]
set_option maxHeartbeats 16000000 in
set_option maxRecDepth 20000 in
theorem rsum_calls (a : Option Addr) (n c : Nat) (R : List Rw) (l : List Vl) (w : World) (h : Rws w a n R) (hn : n ≤ c) (hc : c ≤ maxLen) (he : vss R = ones l) (hk : ∀ v ∈ l, nOk v) (h80 : n ≤ 10000) :
    Calls Tryd.prog 72 #[.slice a n c] w fun r w' => r = .returned (.agg (vlC (sumVl l)).toArray) ∧ Cls w w' := by
  unfold maxLen at hc
  have hll : l.length = n := by
    have := congrArg List.length he
    rw [vss_len, h.ln] at this
    simpa [ones] using this.symm
  have HL := Lib.hid hll
  have HC : Hid (∀ j, j < n → ∃ b off b2 off2 c2, a = some ⟨b, off, none⟩ ∧ b < w.heap.size ∧ w.cell? ⟨b, off + j, none⟩ = some (.slice (some ⟨b2, off2, none⟩) 1 c2) ∧ b2 < w.heap.size ∧ w.cell? ⟨b2, off2, none⟩ = some (.int .i64 (l.getD j Vl.z).k) ∧ w.cell? ⟨b2, off2 + 1, none⟩ = some (.int .i64 (l.getD j Vl.z).n)) := Lib.hid fun j hj => by
    obtain ⟨b, off, ea, hb, hcell⟩ := h.at_.resolve_left (by omega)
    have hok := h.get j
    have hv : (R.getD j default).vs = [l.getD j Vl.z] := by
      have h1 : (vss R).getD j [] = (ones l).getD j [] := by rw [he]
      rw [vss_getD] at h1
      rw [h1]
      simp [ones, List.getD, hll, hj]
    have hcj := hcell j hj
    generalize R.getD j default = u at *
    obtain ⟨ua, ul, uc, uv⟩ := u
    simp only at hv
    subst hv
    have hul : ul = 1 := by have := hok.holds.1; simpa using this.symm
    subst hul
    obtain ⟨b2, off2, ea2, hb2, hc2⟩ := hok.holds.2.resolve_left (by show ¬ (1 = 0); decide)
    simp only at ea2
    subst ea2
    obtain ⟨p0, p1, p2⟩ := hc2 0 (by show 0 < 1; omega)
    simp only [Nat.zero_mul, Nat.add_zero, List.getD_cons_zero] at p0 p1
    exact ⟨b, off, b2, off2, uc, ea, hb, hcj, hb2, p0, p1⟩
  have HK := Lib.hid hk
  clear h hk he hll
  go_enter Tryd.func72, Tryd.ntmps72
  go_wp2_with fail
  go_loopw [3, 4, 5, 6] (fun s3 s4 s5 i wr => ∃ (j : Nat) (hi lo : Int) (fo : Bool), j ≤ n ∧ i = .int .i64 j ∧ s3 = .bool fo ∧ s4 = .int .i64 hi ∧ s5 = .int .i64 lo ∧ Hid (fo = anyI (l.take j)) ∧ Hid (-1000000000000 < lo ∧ lo < 1000000000000 ∧ -10000000 * (j : Int) ≤ hi ∧ hi ≤ 10000000 * (j : Int) ∧ hi * 1000000000000 + lo = sumZ (l.take j)) ∧ Cls (w.alloc (.cells #[.int .i64 0, .int .i64 0, .string ⟨#[]⟩] 39)) wr) (fun _ _ _ i _ => n - (intOf i).toNat)
  case atStart => exact ⟨0, 0, 0, false, Nat.zero_le _, rfl, rfl, rfl, rfl, Lib.hid (by simp [anyI]), Lib.hid (by simp [sumZ]), Cls.of (Below.refl _ _)⟩
  case round =>
    obtain ⟨j, hi, lo, fo, hj, rfl, rfl, rfl, rfl, hfo, hs, x, rfl⟩ := hrel
    have xs := x.size
    simp at xs
    by_cases hlt : j < n
    · obtain ⟨b, off, b2, off2, c2, ea, hb, q0, hb2, p0, p1⟩ := HC.out j hlt
      subst ea
      have hb1 : b < w.heap.size + 1 := by omega
      have hb3 : b2 < w.heap.size + 1 := by omega
      have hvn := getD_n HK.out j
      have HS1 := Lib.hid (sumZ_next (l := l) (j := j) (by rw [HL.out]; exact hlt))
      have HA1 := Lib.hid (anyI_next (l := l) (j := j) (by rw [HL.out]; exact hlt))
      have HVN := Lib.hid hvn
      clear hvn
      generalize l.getD j Vl.z = v at *
      obtain ⟨vk, vn, vs⟩ := v
      simp only at p0 p1
      by_cases hv1 : vk = 1
      · subst hv1
        have hvn := HVN.out
        unfold nOk at hvn
        simp only at hvn
        obtain ⟨a1, a2, a3, a4, a5⟩ := td_spec vn
        obtain ⟨r1, r2, r3, r4, r5⟩ := hs.out
        have e1 : wrap64 (vn.tdiv 1000000000000) = vn.tdiv 1000000000000 := by unfold wrap64; omega
        have e2 : wrap64 (hi + vn.tdiv 1000000000000) = hi + vn.tdiv 1000000000000 := by unfold wrap64; omega
        have e3 : wrap64 (lo + vn.tmod 1000000000000) = lo + vn.tmod 1000000000000 := by unfold wrap64; omega
        obtain ⟨b1', b2', b3', b4', b5'⟩ := td_spec (lo + vn.tmod 1000000000000)
        have e4 : wrap64 ((lo + vn.tmod 1000000000000).tdiv 1000000000000) = (lo + vn.tmod 1000000000000).tdiv 1000000000000 := by unfold wrap64; omega
        have e5 : wrap64 (hi + vn.tdiv 1000000000000 + (lo + vn.tmod 1000000000000).tdiv 1000000000000) = hi + vn.tdiv 1000000000000 + (lo + vn.tmod 1000000000000).tdiv 1000000000000 := by unfold wrap64; omega
        have HG : Hid (-1000000000000 < (lo + vn.tmod 1000000000000).tmod 1000000000000 ∧ (lo + vn.tmod 1000000000000).tmod 1000000000000 < 1000000000000 ∧ -10000000 * ((j + 1 : Nat) : Int) ≤ hi + vn.tdiv 1000000000000 + (lo + vn.tmod 1000000000000).tdiv 1000000000000 ∧ hi + vn.tdiv 1000000000000 + (lo + vn.tmod 1000000000000).tdiv 1000000000000 ≤ 10000000 * ((j + 1 : Nat) : Int) ∧ (hi + vn.tdiv 1000000000000 + (lo + vn.tmod 1000000000000).tdiv 1000000000000) * 1000000000000 + (lo + vn.tmod 1000000000000).tmod 1000000000000 = sumZ (l.take (j + 1))) := Lib.hid (by
          rw [HS1.out]
          simp only [intP, if_true]
          omega)
        have HF : Hid (true = anyI (l.take (j + 1))) := Lib.hid (by rw [HA1.out]; simp)
        have E1 := Lib.hid e1
        have E2 := Lib.hid e2
        have E3 := Lib.hid e3
        have E4 := Lib.hid e4
        have E5 := Lib.hid e5
        clear a1 a2 a3 a4 a5 r1 r2 r3 r4 r5 b1' b2' b3' b4' b5' hvn hs hfo e1 e2 e3 e4 e5
        go_wp2_with fail
        go_roundw
        case rel =>
          refine ⟨j + 1, _, _, true, by omega, by go_num, rfl, rfl, rfl, HF, Lib.hid ?_, x, rfl⟩
          rw [E3.out, E1.out, E2.out, E4.out, E5.out]
          exact HG.out
        case measure => simp [intOf]; omega
      · have d1 : (vk == 1) = false := by simp [hv1]
        have d2 : (vk != 1) = true := by simp [hv1]
        have hv2 : ¬ (vk = 1) := hv1
        have HG : Hid (-1000000000000 < lo ∧ lo < 1000000000000 ∧ -10000000 * ((j + 1 : Nat) : Int) ≤ hi ∧ hi ≤ 10000000 * ((j + 1 : Nat) : Int) ∧ hi * 1000000000000 + lo = sumZ (l.take (j + 1))) := Lib.hid (by
          have := hs.out
          rw [HS1.out]
          simp only [intP, if_neg hv1]
          omega)
        have HF : Hid (fo = anyI (l.take (j + 1))) := Lib.hid (by rw [HA1.out, ← hfo.out]; simp [hv1])
        clear hs hfo hv1
        go_wp2_with fail
        go_roundw
        case rel => exact ⟨j + 1, hi, lo, fo, by omega, by go_num, rfl, rfl, rfl, HF, HG, x, rfl⟩
        case measure => simp [intOf]; omega
    · have htl : l.take j = l := List.take_of_length_le (by rw [HL.out]; omega)
      rw [htl] at hfo hs
      obtain ⟨r1, r2, r3, r4, r5⟩ := hs.out
      have HI := Lib.hid (sumVl_is l)
      have hbx := Lib.hid ((x.below.block w.heap.size (by simp)).trans (heap_alloc_new w _))
      have HB0 : Hid (Below w.heap.size w x.val) := Lib.hid (x.on ((Below.refl _ _).alloc (Nat.le_refl _) _) (by simp))
      clear xs htl hs HC HK
      generalize x.val = X at *
      obtain ⟨c0, c1, c2, c3, c4, c5, c6⟩ := three_z hbx.out
      cases fo
      · have HR := Lib.hid (HI.out.1 hfo.out.symm)
        clear hfo HI r1 r2 r3 r4 r5
        go_wp2_with fail
        refine ret_ex rfl ?_
        simp [results, Tryd.results72, go_sem, c4, c5, c6]
        exact ⟨by rw [HR.out]; rfl, Cls.of (by (repeat first | with_reducible exact Below.refl _ _ | with_reducible refine Below.setCell ?_ (by first | omega | (simp; done) | (simp; omega)) _ | with_reducible refine Below.alloc ?_ (by first | omega | (simp; done) | (simp; omega)) _ | with_reducible refine Below.drew ?_ | with_reducible refine Ext.on _ ?_ (by first | omega | (simp; done) | (simp; omega))); try exact HB0.out)⟩
      · have HI2 := Lib.hid (HI.out.2 hfo.out.symm)
        clear hfo HI
        by_cases h2 : 2 < hi
        · have d1 : decide (2 < hi) = true := by simpa using h2
          have HR : Hid (sumVl l = Vl.z) := Lib.hid (HI2.out.2 (by omega))
          clear HI2 r1 r2 r3 r4 r5
          go_wp2_with fail
          refine ret_ex rfl ?_
          simp [results, Tryd.results72, go_sem, c4, c5, c6]
          exact ⟨by rw [HR.out]; rfl, Cls.of (by (repeat first | with_reducible exact Below.refl _ _ | with_reducible refine Below.setCell ?_ (by first | omega | (simp; done) | (simp; omega)) _ | with_reducible refine Below.alloc ?_ (by first | omega | (simp; done) | (simp; omega)) _ | with_reducible refine Below.drew ?_ | with_reducible refine Ext.on _ ?_ (by first | omega | (simp; done) | (simp; omega))); try exact HB0.out)⟩
        · have d1 : decide (2 < hi) = false := by simpa using h2
          by_cases h3 : hi < -2
          · have d2 : decide (hi < -2) = true := by simpa using h3
            have HR : Hid (sumVl l = Vl.z) := Lib.hid (HI2.out.2 (by omega))
            clear HI2 r1 r2 r3 r4 r5
            go_wp2_with fail
            refine ret_ex rfl ?_
            simp [results, Tryd.results72, go_sem, c4, c5, c6]
            exact ⟨by rw [HR.out]; rfl, Cls.of (by (repeat first | with_reducible exact Below.refl _ _ | with_reducible refine Below.setCell ?_ (by first | omega | (simp; done) | (simp; omega)) _ | with_reducible refine Below.alloc ?_ (by first | omega | (simp; done) | (simp; omega)) _ | with_reducible refine Below.drew ?_ | with_reducible refine Ext.on _ ?_ (by first | omega | (simp; done) | (simp; omega))); try exact HB0.out)⟩
          · have d2 : decide (hi < -2) = false := by simpa using h3
            have E1 : wrap64 (hi * 1000000000000) = hi * 1000000000000 := by unfold wrap64; omega
            have E2 : wrap64 (hi * 1000000000000 + lo) = sumZ l := by rw [r5]; unfold wrap64; omega
            by_cases h4 : 1000000000000 < sumZ l
            · have d3 : decide (1000000000000 < wrap64 (hi * 1000000000000 + lo)) = true := by rw [E2]; simpa using h4
              have HR : Hid (sumVl l = Vl.z) := Lib.hid (HI2.out.2 (by omega))
              clear HI2 r1 r2 r3 r4 r5 E1 E2
              go_wp2_with fail
              refine ret_ex rfl ?_
              simp [results, Tryd.results72, go_sem, c4, c5, c6]
              exact ⟨by rw [HR.out]; rfl, Cls.of (by (repeat first | with_reducible exact Below.refl _ _ | with_reducible refine Below.setCell ?_ (by first | omega | (simp; done) | (simp; omega)) _ | with_reducible refine Below.alloc ?_ (by first | omega | (simp; done) | (simp; omega)) _ | with_reducible refine Below.drew ?_ | with_reducible refine Ext.on _ ?_ (by first | omega | (simp; done) | (simp; omega))); try exact HB0.out)⟩
            · have d3 : decide (1000000000000 < wrap64 (hi * 1000000000000 + lo)) = false := by rw [E2]; simpa using h4
              by_cases h5 : sumZ l < -1000000000000
              · have d4 : decide (wrap64 (hi * 1000000000000 + lo) < -1000000000000) = true := by rw [E2]; simpa using h5
                have HR : Hid (sumVl l = Vl.z) := Lib.hid (HI2.out.2 (by omega))
                clear HI2 r1 r2 r3 r4 r5 E1 E2
                go_wp2_with fail
                refine ret_ex rfl ?_
                simp [results, Tryd.results72, go_sem, c4, c5, c6]
                exact ⟨by rw [HR.out]; rfl, Cls.of (by (repeat first | with_reducible exact Below.refl _ _ | with_reducible refine Below.setCell ?_ (by first | omega | (simp; done) | (simp; omega)) _ | with_reducible refine Below.alloc ?_ (by first | omega | (simp; done) | (simp; omega)) _ | with_reducible refine Below.drew ?_ | with_reducible refine Ext.on _ ?_ (by first | omega | (simp; done) | (simp; omega))); try exact HB0.out)⟩
              · have d4 : decide (wrap64 (hi * 1000000000000 + lo) < -1000000000000) = false := by rw [E2]; simpa using h5
                have HR : Hid (sumVl l = ⟨1, wrap64 (hi * 1000000000000 + lo), ⟨#[]⟩⟩) := Lib.hid (by rw [E2]; exact HI2.out.1 (by omega) (by omega))
                clear HI2 r1 r2 r3 r4 r5 E1 E2
                go_wp2_with fail
                refine ret_ex rfl ?_
                simp [results, Tryd.results72, go_sem, c4, c5, c6]
                exact ⟨by rw [HR.out]; rfl, Cls.of (by (repeat first | with_reducible exact Below.refl _ _ | with_reducible refine Below.setCell ?_ (by first | omega | (simp; done) | (simp; omega)) _ | with_reducible refine Below.alloc ?_ (by first | omega | (simp; done) | (simp; omega)) _ | with_reducible refine Below.drew ?_ | with_reducible refine Ext.on _ ?_ (by first | omega | (simp; done) | (simp; omega))); try exact HB0.out)⟩
end Go.Proofs.YtpddkljedhghkaaDoor.BG
set_option linter.unusedVariables false
namespace Go.Proofs.YtpddkljedhghkaaDoor
open Go Go.RowKit
set_option maxHeartbeats 2000000 in
theorem rkids_calls (op : Int) (m : Nat) (w : World) (h1 : 1 ≤ op) (h2 : op < 29) :
    Calls Tryd.prog 41 #[.int .i64 op, .int .i64 (m : Nat)] w fun e w' => e = .returned (.bool (takesO op m)) ∧ Cls w w' := by
  have : op = 1 ∨ op = 2 ∨ op = 3 ∨ op = 4 ∨ op = 5 ∨ op = 6 ∨ op = 7 ∨ op = 8 ∨ op = 9 ∨ op = 10 ∨ op = 11 ∨ op = 12 ∨ op = 13 ∨ op = 14 ∨ op = 15 ∨ op = 16 ∨ op = 17 ∨ op = 18 ∨ op = 19 ∨ op = 20 ∨ op = 21 ∨ op = 22 ∨ op = 23 ∨ op = 24 ∨ op = 25 ∨ op = 26 ∨ op = 27 ∨ op = 28 := by omega
  rcases this with rfl | rfl | rfl | rfl | rfl | rfl | rfl | rfl | rfl | rfl | rfl | rfl | rfl | rfl | rfl | rfl | rfl | rfl | rfl | rfl | rfl | rfl | rfl | rfl | rfl | rfl | rfl | rfl
  all_goals
    go_enter Tryd.func41, Tryd.ntmps41
    go_wp2_with fail
    go_ret
    refine ⟨ret_bool ?_, Cls.of ?_⟩
    · simp [takesO, oneB]; first | done | omega | (rw [Bool.eq_iff_iff]; simp; done) | (rw [Bool.eq_iff_iff]; simp; omega)
    · repeat first | with_reducible exact Below.refl _ _ | with_reducible assumption | with_reducible refine Below.setCell ?_ (by first | omega | (simp; done) | (simp; omega)) _ | with_reducible refine Below.alloc ?_ (by first | omega | (simp; done) | (simp; omega)) _ | with_reducible refine Below.drew ?_ | with_reducible refine Ext.on _ ?_ (by first | omega | (simp; done) | (simp; omega))
/-- The three cells of a value. -/
def Vl.cells (v : Vl) : List Value := [.int .i64 v.k, .int .i64 v.n, .string v.s]
def flatV : List Vl → List Value
  | [] => []
  | r :: l => r.cells ++ flatV l
theorem flatV_length (l : List Vl) : (flatV l).length = l.length * 3 := by
  induction l with
  | nil => rfl
  | cons r l ih => simp [flatV, Vl.cells, ih]; omega
theorem flatV_append (l m : List Vl) : flatV (l ++ m) = flatV l ++ flatV m := by
  induction l with
  | nil => rfl
  | cons r l ih => simp [flatV, ih]
theorem flatV_at (l : List Vl) : ∀ i, i < l.length → (flatV l)[i * 3]? = some (.int .i64 (l.getD i Vl.z).k) ∧ (flatV l)[i * 3 + 1]? = some (.int .i64 (l.getD i Vl.z).n) ∧ (flatV l)[i * 3 + 2]? = some (.string (l.getD i Vl.z).s) := by
  induction l with
  | nil => intro i h; simp at h
  | cons r l ih =>
    intro i h
    cases i with
    | zero => simp [flatV, Vl.cells]
    | succ i =>
      have h2 := ih i (by simpa using h)
      rw [show (i + 1) * 3 = i * 3 + 3 by omega]
      simpa [flatV, Vl.cells, List.getD] using h2
theorem ownV_later {w w' : World} {base size n : Nat} {e : TypeId} {v : Value} {xs : List Value} (h : w.ownsRow base e size v n xs) (hb : Below w.heap.size w w') : w'.ownsRow base e size v n xs := by
  refine ⟨h.1, h.2.imp id ?_⟩
  rintro ⟨g, cap, cur, hv, hg, hh, rest⟩
  exact ⟨g, cap, cur, hv, hg, (hb.block g (Array.getElem?_eq_some_iff.1 hh).1).trans hh, rest⟩
/-- A row of values that a call made, as a row. -/
theorem rowIs_of {w : World} {base : Nat} {v : Value} {vs : List Vl} (h : w.ownsRow base 39 3 v vs.length (flatV vs)) (hs : ∀ x ∈ vs, x.s.size ≤ maxLen) : ∃ a cap, v = .slice a vs.length cap ∧ RowIs w a vs.length cap vs := by
  rcases h.2 with ⟨rfl, h0⟩ | ⟨g, cap, cur, rfl, hb, hh, hn, hc, hr, ht⟩
  · have : vs = [] := List.eq_nil_of_length_eq_zero h0
    subst this
    exact ⟨none, 0, rfl, rfl, Nat.le_refl _, Nat.zero_le _, hs, .inl rfl⟩
  · refine ⟨some ⟨g, 0, none⟩, cap, rfl, rfl, hn, hc, hs, .inr ⟨g, 0, rfl, (Array.getElem?_eq_some_iff.1 hh).1, fun i hi => ?_⟩⟩
    have hcell := World.ownsRow.cells h (g := g) rfl
    have hadd : ∀ j, (⟨g, 0, none⟩ : Addr).add j = ⟨g, 0 + j, none⟩ := fun j => by unfold Addr.add; split <;> simp_all
    obtain ⟨f0, f1, f2⟩ := flatV_at vs i hi
    have c0 := hcell _ _ f0
    have c1 := hcell _ _ f1
    have c2 := hcell _ _ f2
    rw [hadd] at c0 c1 c2
    exact ⟨c0, c1, c2⟩
end Go.Proofs.YtpddkljedhghkaaDoor
set_option linter.unusedVariables false
namespace Go.Proofs.YtpddkljedhghkaaDoor.BG
open Go Go.RowKit
/-- The slice holds these rows. -/
structure RL (w : World) (a : Option Addr) (n c : Nat) (L : List (List Vl)) : Prop where
  ln : L.length = n
  le : n ≤ c
  cp : c ≤ maxLen
  at_ : ∀ j, j < n → ∃ b off ra rc, a = some ⟨b, off, none⟩ ∧ b < w.heap.size ∧ w.cell? ⟨b, off + j, none⟩ = some (.slice ra (L.getD j []).length rc) ∧ RowIs w ra (L.getD j []).length rc (L.getD j [])
  ok : ∀ r ∈ L, ∀ v ∈ r, nOk v
theorem RL.later {w w' : World} {a : Option Addr} {n c : Nat} {L : List (List Vl)} (h : RL w a n c L) (hb : Below w.heap.size w w') : RL w' a n c L := by
  refine ⟨h.ln, h.le, h.cp, fun j hj => ?_, h.ok⟩
  obtain ⟨b, off, ra, rc, ea, hlt, hc, hr⟩ := h.at_ j hj
  exact ⟨b, off, ra, rc, ea, Nat.lt_of_lt_of_le hlt hb.size, by rw [hb.cell (p := ⟨b, _, none⟩) hlt]; exact hc, hr.later hb⟩
def knownL (e : Ex) (L : List (List Vl)) : List Vl := (L.map fun r => evalE e r).filter fun v => !(v.k == 0)
theorem takeL_next {α : Type} {l : List α} {j : Nat} {d : α} (h : j < l.length) : l.take (j + 1) = l.take j ++ [l.getD j d] := by
  rw [List.take_succ_eq_append_getElem h]
  simp [List.getD, h]
theorem knownL_next (e : Ex) {L : List (List Vl)} {j : Nat} (h : j < L.length) : ((evalE e (L.getD j [])).k = 0 → knownL e (L.take (j + 1)) = knownL e (L.take j)) ∧ ((evalE e (L.getD j [])).k ≠ 0 → knownL e (L.take (j + 1)) = knownL e (L.take j) ++ [evalE e (L.getD j [])]) := by
  rw [takeL_next (d := []) h]
  unfold knownL
  rw [List.map_append, List.filter_append]
  refine ⟨fun h => ?_, fun h => ?_⟩
  · simp only [List.map_cons, List.map_nil]
    generalize evalE e (L.getD j []) = v at *
    simp [h]
  · simp only [List.map_cons, List.map_nil]
    generalize evalE e (L.getD j []) = v at *
    simp [h]
theorem knownL_len (e : Ex) (L : List (List Vl)) : (knownL e L).length ≤ L.length := by
  unfold knownL
  exact Nat.le_trans (List.length_filter_le _ _) (by simp)
theorem vlC_one (v : Vl) : ∀ u ∈ vlC v, u.oneCell' = true := by
  intro u h
  simp only [vlC, List.mem_cons, List.not_mem_nil, or_false] at h
  rcases h with rfl | rfl | rfl <;> rfl
theorem flatV_snoc (l : List Vl) (v : Vl) : flatV (l ++ [v]) = flatV l ++ vlC v := by
  induction l with
  | nil => rfl
  | cons x l ih => simp only [List.cons_append, flatV, ih]
theorem cells_new2 (w : World) (o : Obj) (l : List Value) (t : TypeId) : ∀ j u, l[j]? = some u → ((w.alloc o).alloc (.cells l.toArray t)).cell? ((⟨w.heap.size + 1, 0, none⟩ : Addr).add j) = some u := by
  have h := cells_new' (w.alloc o) l t
  rw [World.size_alloc] at h
  exact h
set_option maxHeartbeats 8000000 in
set_option maxRecDepth 20000 in
theorem known_calls (e : Ex) (ka : Option Addr) (kl kc : Nat) (ok : Nat → Prop) (a : Option Addr) (n c : Nat) (L : List (List Vl)) (w : World) (hk : Kids w ok ka kl kc e.kids) (hf : e.fine) (h : RL w a n c L) (hn : n ≤ 10000) (ho : OpsTab w) :
    Calls Tryd.prog 67 #[.agg #[.int .i64 e.op, .int .i64 e.ty, .int .i64 e.num, .string e.text, .int .i64 e.col, .slice ka kl kc], .slice a n c] w fun r w' => ∃ (v : Value) (l : List Vl), r = .returned v ∧ w'.ownsRow (w.heap.size + 1) 39 3 v l.length (flatV l) ∧ l.Perm (knownL e L) ∧ ascV l ∧ Cls w w' := by
  obtain ⟨i0, hi, hz0, hz1, hz2⟩ := info_parts infoV
  have hle := h.le
  have hcp := h.cp
  unfold maxLen at hcp
  have HLN := Lib.hid h.ln
  have HAT := Lib.hid h.at_
  have CE : Hid (∀ j, j < n → ∀ (ra : Option Addr) (rc : Nat) (W : World), Below w.heap.size w W → RowIs w ra (L.getD j []).length rc (L.getD j []) → Calls Tryd.prog 13 #[.agg #[.int .i64 e.op, .int .i64 e.ty, .int .i64 e.num, .string e.text, .int .i64 e.col, .slice ka kl kc], .slice ra (L.getD j []).length rc] W fun r w' => r = .returned (.agg #[.int .i64 (evalE e (L.getD j [])).k, .int .i64 (evalE e (L.getD j [])).n, .string (evalE e (L.getD j [])).s]) ∧ Cls W w') := Lib.hid fun j hj ra rc W hW hr => Eval_calls e ka kl kc ok ra _ rc _ W (hk.later hW) hf (hr.later hW) (ho.later hW)
  have HKL := Lib.hid (knownL_len e)
  have hkm := hk.max
  have hkl := hk.le
  clear h hk hf ho
  go_enter Tryd.func67, Tryd.ntmps67
  go_wp2_with fail
  go_loopw [5, 11] (fun u i wr => ∃ (j : Nat) (l : List Vl), j ≤ n ∧ i = .int .i64 j ∧ wr.ownsRow (w.heap.size + 1) 39 3 u l.length (flatV l) ∧ l = knownL e (L.take j) ∧ Cls (w.alloc (.cells #[.int .i64 e.op, .int .i64 e.ty, .int .i64 e.num, .string e.text, .int .i64 e.col, .slice ka kl kc] 30)) wr) (fun _ i _ => n - (intOf i).toNat)
  case atStart => exact ⟨0, [], Nat.zero_le _, rfl, World.ownsRow_nil _ _ _ 3, rfl, Cls.of (Below.refl _ _)⟩
  case round =>
    obtain ⟨j, l, hj, rfl, hown, hl, x, rfl⟩ := hrel
    have HO := Lib.hid hown
    have HLL := Lib.hid hl
    have hln : l.length ≤ 10000 := by
      have h1 := HKL.out (L.take j)
      rw [hl]
      rw [List.length_take] at h1
      omega
    clear hown hl
    have xs := x.size
    simp at xs
    have HBX : Hid (Below w.heap.size w x.val) := Lib.hid (by repeat first | with_reducible exact Below.refl _ _ | with_reducible refine Below.setCell ?_ (by first | omega | (simp; done) | (simp; omega)) _ | with_reducible refine Below.alloc ?_ (by first | omega | (simp; done) | (simp; omega)) _ | with_reducible refine Below.drew ?_ | with_reducible refine Ext.on _ ?_ (by first | omega | (simp; done) | (simp; omega)))
    by_cases hlt : j < n
    · obtain ⟨b, off, ra, rc, ea, hb, q0, hrow⟩ := HAT.out j hlt
      subst ea
      have hb1 : b < w.heap.size + 1 := by omega
      have C1 := Lib.hid (CE.out j hlt ra rc x.val HBX.out hrow)
      obtain ⟨hn1, hn2⟩ := knownL_next e (L := L) (j := j) (by rw [HLN.out]; exact hlt)
      have HN1 := Lib.hid hn1
      have HN2 := Lib.hid hn2
      have hrl := hrow.2.1
      have hrm := hrow.2.2.1
      unfold maxLen at hrm
      clear hrow hn1 hn2
      generalize evalE e (L.getD j []) = v at *
      generalize L.getD j [] = rw_ at *
      obtain ⟨vk, vn, vs⟩ := v
      simp only at C1 HN1 HN2
      by_cases hv0 : vk = 0
      · subst hv0
        have HS : Hid (l = knownL e (L.take (j + 1))) := Lib.hid (by rw [HN1.out rfl]; exact HLL.out)
        go_wp2_with (go_at_call 13; ((with_reducible refine C1.out.mono ?_); rintro r _ ⟨rfl, y, rfl⟩; have ys := y.size))
        go_roundw
        case rel => exact ⟨j + 1, l, by omega, by go_num, own_later' HO.out (by repeat first | with_reducible exact Below.refl _ _ | with_reducible refine Below.setCell ?_ (by first | omega | (simp; done) | (simp; omega)) _ | with_reducible refine Below.alloc ?_ (by first | omega | (simp; done) | (simp; omega)) _ | with_reducible refine Below.drew ?_ | with_reducible refine Ext.on _ ?_ (by first | omega | (simp; done) | (simp; omega))), HS.out, Cls.of (by repeat first | with_reducible exact Below.refl _ _ | with_reducible refine Below.setCell ?_ (by first | omega | (simp; done) | (simp; omega)) _ | with_reducible refine Below.alloc ?_ (by first | omega | (simp; done) | (simp; omega)) _ | with_reducible refine Below.drew ?_ | with_reducible refine Ext.on _ ?_ (by first | omega | (simp; done) | (simp; omega)))⟩
        case measure => simp [intOf]; omega
      · have HS : Hid (l ++ [⟨vk, vn, vs⟩] = knownL e (L.take (j + 1))) := Lib.hid (by rw [HN2.out hv0, HLL.out])
        have d1 : (vk == 0) = false := by simp [hv0]
        have d2 : (vk != 0) = true := by simp [hv0]
        clear hv0
        go_wp2_with (first | (go_at_call 13; ((with_reducible refine C1.out.mono ?_); rintro r _ ⟨rfl, y, rfl⟩; have ys := y.size)) | (at_builtin; refine wpList_append_own_at _ rfl _ _ 32 rfl (w.heap.size + 1) 39 i0 (.agg #[.int .i64 0, .int .i64 0, .string ⟨#[]⟩]) 3 32 Tryd.underlying32 hi hz0 hz1 hz2 rfl (by decide) _ l.length (flatV l) rfl (own_later' HO.out (by repeat first | with_reducible exact Below.refl _ _ | with_reducible refine Below.setCell ?_ (by first | omega | (simp; done) | (simp; omega)) _ | with_reducible refine Below.alloc ?_ (by first | omega | (simp; done) | (simp; omega)) _ | with_reducible refine Below.drew ?_ | with_reducible refine Ext.on _ ?_ (by first | omega | (simp; done) | (simp; omega)))) ⟨y.val.heap.size + 1, 0, none⟩ 1 1 (vlC ⟨vk, vn, vs⟩) rfl rfl (cells_new2 _ _ (vlC ⟨vk, vn, vs⟩) _) (vlC_one _) (by unfold maxLen; omega) (by omega) (by simp; omega) ?_; intro v3 w3 hown3 hg3 _ hat3; have HO3 := Lib.hid hown3; have HG := Lib.hid hg3; clear hown3 hg3 hat3))
        go_roundw
        case rel =>
          refine ⟨j + 1, l ++ [⟨vk, vn, vs⟩], by omega, by go_num, ?_, HS.out, Cls.of (Below.grown (w := (y.val.alloc _).alloc _) ?_ HG.out (by simp; omega) (fun k hk => by have := (HO.out.lt k hk).1; simp; omega))⟩
          · rw [List.length_append, flatV_snoc]; exact HO3.out
          · repeat first | with_reducible exact Below.refl _ _ | with_reducible refine Below.setCell ?_ (by first | omega | (simp; done) | (simp; omega)) _ | with_reducible refine Below.alloc ?_ (by first | omega | (simp; done) | (simp; omega)) _ | with_reducible refine Below.drew ?_ | with_reducible refine Ext.on _ ?_ (by first | omega | (simp; done) | (simp; omega))
        case measure => simp [intOf]; omega
    · have hlj : l = knownL e L := by rw [HLL.out, List.take_of_length_le (by rw [HLN.out]; omega)]
      have HLJ := Lib.hid hlj
      clear hlj
      have CS := Lib.hid (SortV_own (w.heap.size + 1) _ l x.val (by omega) HO.out hln)
      go_wp2_with (go_at_call 110; ((with_reducible refine CS.out.mono ?_); rintro r w4 ⟨rfl, l', ho4, hp4, ha4, hb4⟩; have HO4 := Lib.hid ho4; have HP4 := Lib.hid hp4; have HA4 := Lib.hid ha4; have HB4 := Lib.hid hb4; clear ho4 hp4 ha4 hb4))
      go_ret
      refine ⟨_, l', rfl, ?_, by rw [← HLJ.out]; exact HP4.out, HA4.out, Cls.of (HBX.out.trans (HB4.out.mono (by omega)))⟩
      rw [HP4.out.length_eq]; exact HO4.out
end Go.Proofs.YtpddkljedhghkaaDoor.BG
