/-
  The program's sums of fractions: all terms; what is compared with a fraction. What CheckSolution gives. The reference's fractions of any size: products. The reference's fractions of any size: whole numbers, which is less; sums in lowest terms.
-/
import Derived.Test.YthbdkhmgopahbaaJ14
import Derived.Test.YthbdkhmgopahbaaJ08
import Derived.Test.YthbdkhmgopahbaaJ09
set_option linter.unusedVariables false
namespace Go.Proofs.Ythbdkhmgopahbaa
open Go Go.RowKit Go.Deep
/-- Where the sum lies: in block b; the first new block is the result's, still empty. -/
def TotAt (w0 : World) (b : Nat) (N : Int) (D : Nat) (wr : World) : Prop := ∃ (g : Bool) (s t : Sl), wr.heap[b]? = some (.cells #[.bool g, .slice s.a s.len s.cap, .slice t.a t.len t.cap] 60) ∧ wr.heap[w0.heap.size]? = some (.cells #[.bool false, .slice none 0 0, .slice none 0 0] 60) ∧ IAt wr g s (frI N D) ∧ NatAt wr t (frd N D) ∧ Below w0.heap.size w0 wr
theorem TotAt.mk' {w0 W : World} {b : Nat} {N : Int} {D : Nat} {g x : Bool} {s t : Sl} {a a' : Option Addr} {n c n' c' : Nat} (hT : W.heap[b]? = some (.cells #[.bool x, .slice a n c, .slice a' n' c'] 60)) (h0 : W.heap[w0.heap.size]? = some (.cells #[.bool false, .slice none 0 0, .slice none 0 0] 60)) (hne : w0.heap.size < b) (hs : IAt W g s (frI N D)) (ht : NatAt W t (frd N D)) (hb : Below w0.heap.size w0 W) :
    TotAt w0 b N D (((W.setCell ⟨b, 0, none⟩ (.bool g)).setCell ⟨b, 1, none⟩ (.slice s.a s.len s.cap)).setCell ⟨b, 2, none⟩ (.slice t.a t.len t.cap)) := by
  have hne' : w0.heap.size ≠ b := by omega
  refine ⟨g, s, t, ?_, ?_, ⟨NatAt.store3 hs.1 hT _ _ _, hs.2⟩, NatAt.store3 ht hT _ _ _, below3 hb (by omega) _ _ _⟩
  · rw [heap_setCell_same _ _ _ _ _ _ (heap_setCell_same _ _ _ _ _ _ (heap_setCell_same _ _ _ _ _ _ hT))]
    simp
  · rw [heap_setCell_other _ _ _ _ hne', heap_setCell_other _ _ _ _ hne', heap_setCell_other _ _ _ _ hne']
    exact h0
theorem TotAt.drew {w0 wr : World} {b : Nat} {N : Int} {D : Nat} (h : TotAt w0 b N D wr) : TotAt w0 b N D wr.drew := by
  obtain ⟨g, s, t, h1, h2, h3, h4, h5⟩ := h
  exact ⟨g, s, t, h1, h2, h3, h4, h5.drew⟩
theorem one_nat (w : World) (t : TypeId) : NatAt (w.alloc (.cells #[.int .u64 1] t)) ⟨some ⟨w.heap.size, 0, none⟩, 1, 1⟩ 1 := by
  unfold NatAt
  rw [wdigs_one]
  exact UAt.new w [1] _ t 1 rfl (by simp [flatU]) (by simp)
theorem zero_nat (w : World) : NatAt w ⟨none, 0, 0⟩ 0 := by unfold NatAt; rw [wdigs_zero]; exact UAt.nil
theorem fr_base : frI 0 1 = 0 ∧ frd 0 1 = 1 := ⟨frI_zero 1, frd_zero (by omega)⟩
set_option maxHeartbeats 16000000 in
set_option maxRecDepth 20000 in
theorem total_calls (a : Option Addr) (n c : Nat) (ns : Nat → Int) (a' : Option Addr) (n' c' : Nat) (fn : Nat → Int) (fd : Nat → Int) (w : World) (h : IntsA w ⟨a, n, c⟩ ns) (h' : FrsA w ⟨a', n', c'⟩ fn fd) (hnn : n ≤ n') (hn : n ≤ 90) (hk : ∀ i, i < n → (ns i).natAbs < 9223372036854775808) (hv : ∀ i, i < n → vaB (fn i) (fd i) = true) :
    Calls Try.prog 26 #[.slice a n c, .slice a' n' c'] w (SumR w (totN ns fn (fun i => (fd i).natAbs) n) (totD (fun i => (fd i).natAbs) n)) := by
  obtain ⟨hle, hmax, hh⟩ := h
  obtain ⟨hle', hmax', hh'⟩ := h'
  simp only at hle hmax hh hle' hmax' hh'
  unfold maxLen at hmax hmax'
  have H := Lib.hid hh
  have H' := Lib.hid hh'
  have HV := Lib.hid hv
  have HK := Lib.hid hk
  have HD : Hid (∀ k, k ≤ n → 0 < totD (fun i => (fd i).natAbs) k) := Lib.hid fun k hk => totD_pos k fun i hi => by
    have := (vaB_rng (HV.out i (by omega))).1
    show 0 < (fd i).natAbs
    omega
  have HB : Hid (∀ k, k ≤ n → (totN ns fn (fun i => (fd i).natAbs) k).natAbs < wp 200 ∧ totD (fun i => (fd i).natAbs) k < wp 200) := Lib.hid fun k hk => by
    refine ⟨wp_mono (totN_lt k fun i hi => ?_) (by omega), wp_mono (totD_lt k fun i hi => ?_) (by omega)⟩
    · obtain ⟨b1, b2, b3, b4⟩ := vaB_rng (HV.out i (by omega))
      have := HK.out i (by omega)
      show (fd i).natAbs < _ ∧ _ ∧ _
      omega
    · obtain ⟨b1, b2, b3, b4⟩ := vaB_rng (HV.out i (by omega))
      show (fd i).natAbs < _
      omega
  clear hh hh' hv hk
  go_enter Try.func26, Try.ntmps26
  go_wp2_with fail
  go_loopw [12] (fun i wr => ∃ k : Nat, k ≤ n ∧ i = .int .i64 k ∧ Hid (TotAt w (w.heap.size + 1 + 1) (totN ns fn (fun i => (fd i).natAbs) k) (totD (fun i => (fd i).natAbs) k) wr)) (fun i _ => 1000 - (intOf i).toNat)
  case atStart =>
    refine ⟨0, by omega, rfl, Lib.hid ⟨false, ⟨none, 0, 0⟩, ⟨some ⟨w.heap.size + 1, 0, none⟩, 1, 1⟩, new_at2 w _ _ _ _, new3_0 w _ _ _, ?_, ?_, ?_⟩⟩
    · show IAt _ false _ (frI 0 1)
      rw [fr_base.1]
      exact ⟨zero_nat _, SgOf.false_nat 0⟩
    · show NatAt _ _ (frd 0 1)
      rw [fr_base.2]
      have := (one_nat (w.alloc (.cells #[.bool false, .slice none 0 0, .slice none 0 0] 60)) 91).later ((Below.refl _ _).alloc (Nat.le_refl _) (.cells #[.bool false, .slice none 0 0, .slice (some ⟨w.heap.size + 1, 0, none⟩) 1 1] 60))
      simpa using this
    · repeat first | with_reducible exact Below.refl _ _ | with_reducible refine Below.setCell ?_ (by first | omega | (simp; done) | (simp; omega)) _ | with_reducible refine Below.alloc ?_ (by first | omega | (simp; done) | (simp; omega)) _ | with_reducible refine Below.drew ?_ | with_reducible refine Ext.on _ ?_ (by first | omega | (simp; done) | (simp; omega))
  case round =>
    obtain ⟨k, hk, rfl, hT⟩ := hrel
    obtain ⟨g, s, t, hT1, hT0, hs, ht, hbel⟩ := hT.out
    have hbs := hbel.size
    obtain ⟨hbl, _, _, _, z0, z1, z2⟩ := three_n hT1
    obtain ⟨h0l, o0, o1, o2, e0, e1, e2⟩ := three_n hT0
    by_cases hlt : k < n
    · obtain ⟨b, off, ea, hb, hcell⟩ := H.out.resolve_left (by omega)
      obtain ⟨b', off', ea', hb', hcell'⟩ := H'.out.resolve_left (by omega)
      subst ea ea'
      have q0 := (hbel.cell (p := ⟨b, off + k, none⟩) hb).trans (hcell k hlt)
      obtain ⟨r0, r1⟩ := hcell' k (by omega)
      have q1 := (hbel.cell (p := ⟨b', off' + k * 2, none⟩) hb').trans r0
      have q2 := (hbel.cell (p := ⟨b', off' + k * 2 + 1, none⟩) hb').trans r1
      have hb1 : b < wr.heap.size := by omega
      have hb2 : b' < wr.heap.size := by omega
      have hva := HV.out k hlt
      have hfdk : fd k = (((fd k).natAbs : Nat) : Int) := by have := (vaB_rng hva).1; omega
      have hco := fr_coprime (totN ns fn (fun i => (fd i).natAbs) k) (HD.out k hk)
      have hst := fr_step (totN ns fn (fun i => (fd i).natAbs) k) (HD.out k hk) (ns k) (fn k) (b := (fd k).natAbs) (by have := (vaB_rng hva).1; omega)
      have C1 : Hid (∀ W, Below wr.heap.size wr W → Calls Try.prog 57 #[.agg #[.bool g, .slice s.a s.len s.cap, .slice t.a t.len t.cap], .int .i64 (ns k), .agg #[.int .i64 (fn k), .int .i64 (fd k)]] W (SumR W (totN ns fn (fun i => (fd i).natAbs) (k + 1)) (totD (fun i => (fd i).natAbs) (k + 1)))) := Lib.hid fun W hW => by
        have hc := lsum_calls g s.a s.len s.cap t.a t.len t.cap _ _ (ns k) (fn k) (fd k).natAbs W (hs.later hW) (ht.later hW) (frd_pos _ (HD.out k hk)) hco (frI_lt (HB.out k hk).1) (frd_lt (HB.out k hk).2) (HK.out k hlt) (by rw [← hfdk]; exact hva)
        rw [← hfdk] at hc
        refine hc.mono fun e w' hr => ?_
        obtain ⟨g', s', t', he, h1, h2, h3⟩ := hr
        rw [← hfdk] at hst
        rw [hst.1] at h1
        rw [hst.2] at h2
        refine ⟨g', s', t', he, ?_, ?_, h3⟩
        · have e : totN ns fn (fun i => (fd i).natAbs) (k + 1) = totN ns fn (fun i => (fd i).natAbs) k * fd k + ns k * fn k * (totD (fun i => (fd i).natAbs) k : Int) := by
            show totN ns fn (fun i => (fd i).natAbs) k * (((fd k).natAbs : Nat) : Int) + _ = _
            rw [← hfdk]
          rw [e]; exact h1
        · have e : totN ns fn (fun i => (fd i).natAbs) (k + 1) = totN ns fn (fun i => (fd i).natAbs) k * fd k + ns k * fn k * (totD (fun i => (fd i).natAbs) k : Int) := by
            show totN ns fn (fun i => (fd i).natAbs) k * (((fd k).natAbs : Nat) : Int) + _ = _
            rw [← hfdk]
          rw [e]; exact h2
      have HT1 := Lib.hid hT1
      have HT0 := Lib.hid hT0
      have HBL := Lib.hid hbel
      have hkn' : k < n' := by omega
      clear hcell hcell' r0 r1 hva hfdk hco hst hs ht hT1 hT0 hbel H H' HV HK HD HB hT o0 o1 o2 e0 e1 e2
      generalize ns k = p at *
      generalize fn k = u at *
      generalize fd k = v at *
      generalize hN1 : totN ns fn (fun i => (fd i).natAbs) (k + 1) = N1 at *
      generalize hD1 : totD (fun i => (fd i).natAbs) (k + 1) = D1 at *
      have HN1 := Lib.hid hN1
      have HD1 := Lib.hid hD1
      clear hN1 hD1
      go_wp2_with fail
      go_region_with (first
          | (go_at_call 57; (with_reducible refine Calls.mono (C1.out _ ?_) ?_); (focus (repeat first | with_reducible exact Below.refl _ _ | with_reducible refine Below.setCell ?_ (by first | omega | (simp; done) | (simp; omega)) _ | with_reducible refine Below.alloc ?_ (by first | omega | (simp; done) | (simp; omega)) _ | with_reducible refine Below.drew ?_ | with_reducible refine Ext.on _ ?_ (by first | omega | (simp; done) | (simp; omega)))); rintro e _ ⟨g', s', t', rfl, hs', ht', ⟨y, rfl⟩⟩; have ys := y.size; (try simp at ys); have hTy := Lib.hid ((y.below.block (w.heap.size + 1 + 1) hbl).trans HT1.out); have hT0y := Lib.hid ((y.below.block w.heap.size h0l).trans HT0.out); obtain ⟨m0, m1, m2, m3, m4, m5, m6⟩ := three_n hTy.out))
      all_goals
        have HB0 : Below w.heap.size w y.val := y.on HBL.out.drew (by simpa using hbs)
        have HF := Lib.hid (TotAt.mk' (N := N1) (D := D1) hTy.out hT0y.out (by omega) hs' ht' HB0)
        go_wp2_with fail
        go_roundw
        case rel => exact ⟨k + 1, by omega, by go_num, Lib.hid (by rw [HN1.out, HD1.out]; first | exact HF.out | exact HF.out.drew)⟩
        case measure => first | (simp [intOf]; done) | (simp [intOf]; omega)
    · obtain rfl : k = n := by omega
      have HT0 := Lib.hid hT0
      have HS := Lib.hid hs
      have HTT := Lib.hid ht
      have HBL := Lib.hid hbel
      clear hs ht hT1 hT0 hbel H H' HV HK HD HB hT
      go_wp2_with fail
      refine ret_ex rfl ⟨.agg #[.bool g, .slice s.a s.len s.cap, .slice t.a t.len t.cap], by simp [results, Try.results26, go_sem, e0, e1, e2], ⟨g, s, t, rfl, ⟨NatAt.store3 HS.out.1 HT0.out _ _ _, HS.out.2⟩, NatAt.store3 HTT.out HT0.out _ _ _, Cls.of (below3 HBL.out (Nat.le_refl _) _ _ _)⟩⟩
theorem field0 (g : Bool) (a : Option Addr) (n c : Nat) (a' : Option Addr) (n' c' : Nat) (W : World) : Sem.run Try.prog (Instr.field 60 (.agg #[.bool g, .slice a n c, .slice a' n' c']) 0) W = .ok (.agg #[.bool g, .slice a n c]) W := by
  kernel_rfl
set_option maxHeartbeats 8000000 in
set_option maxRecDepth 20000 in
theorem lcmp_calls (g : Bool) (a : Option Addr) (n c : Nat) (a' : Option Addr) (n' c' : Nat) (N : Int) (D : Nat) (fn : Int) (fd : Nat) (w : World) (h : IAt w g ⟨a, n, c⟩ (frI N D)) (h' : NatAt w ⟨a', n', c'⟩ (frd N D)) (hD : 0 < D) (hN : N.natAbs < wp 200) (hDw : D < wp 200) (hf : vaB fn fd = true) :
    Calls Try.prog 36 #[.agg #[.bool g, .slice a n c, .slice a' n' c'], .agg #[.int .i64 fn, .int .i64 fd]] w fun e w' => e = .returned (.int .i64 (cmpI (N * fd) (fn * D))) ∧ Cls w w' := by
  have hfd : 0 < fd := by have := (vaB_rng hf).1; omega
  have C1 : Hid (∀ W, Below w.heap.size w W → Calls Try.prog 57 #[.agg #[.bool g, .slice a n c, .slice a' n' c'], .int .i64 (-1), .agg #[.int .i64 fn, .int .i64 fd]] W (SumR W (frI N D * fd + (-1) * fn * (frd N D : Int)) (frd N D * fd))) := Lib.hid fun W hW => lsum_calls g a n c a' n' c' _ _ (-1) fn fd W (h.later hW) (h'.later hW) (frd_pos _ hD) (fr_coprime _ hD) (frI_lt hN) (frd_lt hDw) (by decide) hf
  have hst := fr_step N hD (-1) fn hfd
  have ER : Hid (∀ (g : Bool) (m : Int), SgOf g m → m = frI (frI N D * fd + (-1) * fn * (frd N D : Int)) (frd N D * fd) → sgI g m.natAbs = cmpI (N * fd) (fn * D)) := Lib.hid fun g m hg hm => by
    rw [hst.1] at hm
    have e1 : sgI g m.natAbs = cmpI m 0 := by
      have e2 : sgB g m.natAbs = m := hg
      unfold sgI cmpI
      cases g <;> simp only [sgB] at e2 <;> (repeat (first | rfl | rw [if_pos (by omega)] | rw [if_neg (by omega)])) <;> simp at * <;> omega
    rw [e1, hm, sign_fr _ (Nat.mul_pos hD hfd)]
    have e3 : N * fd + -1 * fn * (D : Int) = N * fd + -(fn * D) := by
      rw [show (-1 : Int) * fn = -fn by omega, Int.neg_mul]
    rw [e3, cmpI_sub]
  clear h h' hD hN hDw hf hfd hst
  generalize hX : cmpI (N * fd) (fn * D) = rr at *
  clear hX
  generalize frI N D * fd + (-1) * fn * (frd N D : Int) = N1 at *
  generalize frd N D * fd = D1 at *
  have HF0 := field0
  go_enter Try.func36, Try.ntmps36
  go_wp2_with (first | (go_at_call 57; (with_reducible refine Calls.mono (C1.out _ ?_) ?_); (focus (repeat first | with_reducible exact Below.refl _ _ | with_reducible refine Below.setCell ?_ (by first | omega | (simp; done) | (simp; omega)) _ | with_reducible refine Below.alloc ?_ (by first | omega | (simp; done) | (simp; omega)) _ | with_reducible refine Below.drew ?_ | with_reducible refine Ext.on _ ?_ (by first | omega | (simp; done) | (simp; omega)))); rintro e _ ⟨g', s', t', rfl, hs', ht', ⟨y, rfl⟩⟩; have ys := y.size; (try simp at ys)) | (go_at_call 59; have G := Lib.hid (lsign_calls g' s'.a s'.len s'.cap _ _ hs'.1); (with_reducible refine Calls.mono G.out ?_); rintro e _ ⟨rfl, ⟨y2, rfl⟩⟩))
  go_ret
  refine ⟨ret_int (ER.out g' _ hs'.2 rfl), Cls.of ?_⟩
  repeat first | with_reducible exact Below.refl _ _ | with_reducible refine Below.setCell ?_ (by first | omega | (simp; done) | (simp; omega)) _ | with_reducible refine Below.alloc ?_ (by first | omega | (simp; done) | (simp; omega)) _ | with_reducible refine Below.drew ?_ | with_reducible refine Ext.on _ ?_ (by first | omega | (simp; done) | (simp; omega))
end Go.Proofs.Ythbdkhmgopahbaa
set_option linter.unusedVariables false
namespace Go.Proofs.Ythbdkhmgopahbaa
open Go Go.RowKit Go.Deep
def fdN (fd : Nat → Int) (i : Nat) : Nat := (fd i).natAbs
/-- A fraction that is no value of a variable. -/
def bX (y : Sy) (fn fd : Nat → Int) (k : Nat) : Bool := !vaB (fn k) (fd k) || (decide (fn k < 0) || decide (y.up k * fd k < fn k))
/-- An equation that does not hold. -/
def bE (y : Sy) (fn fd : Nat → Int) (n i : Nat) : Bool := !decide (totN (y.co i) fn (fdN fd) n = y.rt i * (totD (fdN fd) n : Int))
def csB (y : Sy) (n : Nat) (fn fd : Nat → Int) : Bool := (vaS y == 0) && ((((n : Nat) : Int) == ((y.U.len : Nat) : Int)) && (!anyB (bX y fn fd) n && !anyB (bE y fn fd n) y.R.len))
structure VaS (y : Sy) : Prop where
  u : y.U.len ≤ 200
  r : y.R.len ≤ 100
  b : y.B.len = y.R.len
  row : ∀ i, i < y.R.len → (y.row i).len = y.U.len
  up : ∀ i, i < y.U.len → 0 ≤ y.up i ∧ y.up i ≤ 1000000000
  rt : ∀ i, i < y.R.len → -1000000000 ≤ y.rt i ∧ y.rt i ≤ 1000000000
  co : ∀ i, i < y.R.len → ∀ k, k < y.U.len → -1000000 ≤ y.co i k ∧ y.co i k ≤ 1000000
theorem vaS_zero {y : Sy} (h : vaS y = 0) : VaS y := by
  unfold vaS at h
  cases hl : limB y with
  | false => simp [hl] at h
  | true =>
    cases hr : rectB y with
    | false => simp [hl, hr] at h
    | true =>
      simp only [limB, Bool.and_eq_true, decide_eq_true_eq, Bool.not_eq_true', anyB_no] at hl
      simp only [rectB, Bool.and_eq_true, beq_iff_eq, Bool.not_eq_true', anyB_no] at hr
      obtain ⟨h1, h2, h3, h4, h5⟩ := hl
      obtain ⟨h6, h7⟩ := hr
      have h8 : ∀ i, i < y.R.len → (y.row i).len = y.U.len := fun i hi => by
        have := h7 i hi
        unfold lenB at this
        simp at this
        omega
      refine ⟨h1, h2, by omega, h8, fun i hi => outB_no.1 (h5 i hi), fun i hi => outB_no.1 (h4 i (by omega)), fun i hi k hk => ?_⟩
      have h9 := h3 i hi
      unfold rowOut at h9
      exact outB_no.1 (anyB_no.1 h9 k (by rw [h8 i hi]; exact hk))
theorem whole_va {n : Int} (h1 : -1000000000 ≤ n) (h2 : n ≤ 1000000000) : vaB n 1 = true := by
  unfold vaB rngB
  simp
  omega
theorem cp_up {fn fd up : Int} (hv : vaB fn fd = true) (h1 : 0 ≤ up) (h2 : up ≤ 1000000000) : decide (0 < cpF fn fd up 1) = decide (up * fd < fn) := by
  rw [cpF_val hv (whole_va (by omega) h2), Bool.eq_iff_iff, decide_eq_true_iff, decide_eq_true_iff]
  unfold crs cmpI
  rw [Int.mul_one]
  split <;> (try split) <;> omega
theorem cmp_zero (a b : Int) : (cmpI a b != 0) = !decide (a = b) := by
  rw [Bool.eq_iff_iff]
  unfold cmpI
  split <;> (try split) <;> simp <;> omega
theorem tot_co {co ns : Nat → Int} {y : Sy} (h : VaS y) (i : Nat) (hi : i < y.R.len) : ∀ k, k < y.U.len → (y.co i k).natAbs < 9223372036854775808 := fun k hk => by have := h.co i hi k hk; omega
end Go.Proofs.Ythbdkhmgopahbaa
set_option linter.unusedVariables false
namespace Go.Proofs.Ythbdkhmgopahbaa
open Go Go.RowKit Go.Deep
set_option maxHeartbeats 16000000 in
set_option maxRecDepth 20000 in
theorem rTimes_way (b1 b2 : Bool) (a1 : Option Addr) (n1 c1 : Nat) (a2 : Option Addr) (n2 c2 : Nat) (a3 : Option Addr) (n3 c3 : Nat) (a4 : Option Addr) (n4 c4 : Nat) (m1 d1 m2 d2 : Nat) (N : Int) (D : Nat) (w : World) (h1 : NumAt w ⟨a1, n1, c1⟩ m1) (h2 : NumAt w ⟨a2, n2, c2⟩ d1) (h3 : NumAt w ⟨a3, n3, c3⟩ m2) (h4 : NumAt w ⟨a4, n4, c4⟩ d2)
    (k1 : m1 < 1000000000 ^ 100) (k2 : d1 < 1000000000 ^ 100) (k3 : m2 < 1000000000 ^ 100) (k4 : d2 < 1000000000 ^ 100) (hD : d1 * d2 = D) (hD0 : 0 < D) (ee : sg (!(b1 == b2)) (m1 * m2) = N) :
    Calls Try.prog 39 #[.agg #[.bool b1, .slice a1 n1 c1, .slice a2 n2 c2], .agg #[.bool b2, .slice a3 n3 c3, .slice a4 n4 c4]] w fun e w' => ∃ s t : Sl, e = .returned (.agg #[.bool (decide (frI N D < 0)), .slice s.a s.len s.cap, .slice t.a t.len t.cap]) ∧ NumAt w' s (frI N D).natAbs ∧ NumAt w' t (frd N D) ∧ Cls w w' := by
  have l1 : n1 ≤ 500 := lt_len h1 k1 (by omega)
  have l2 : n2 ≤ 500 := lt_len h2 k2 (by omega)
  have l3 : n3 ≤ 500 := lt_len h3 k3 (by omega)
  have l4 : n4 ≤ 500 := lt_len h4 k4 (by omega)
  have X1 := mul_lt_pow k1 k3
  have X3 := mul_lt_pow k2 k4
  rw [hD] at X3
  have C1 := Lib.hid (fun (W : World) (hb : Below w.heap.size w W) => mul_calls a1 n1 c1 a3 n3 c3 m1 m2 W (h1.later hb) (h3.later hb) l1 l3)
  have C2 := Lib.hid (fun (W : World) (hb : Below w.heap.size w W) => mul_calls a2 n2 c2 a4 n4 c4 d1 d2 W (h2.later hb) (h4.later hb) l2 l4)
  rw [hD] at C2
  have EE := Lib.hid ee
  have HD0 := Lib.hid hD0
  clear ee h1 h2 h3 h4 k1 k2 k3 k4 l1 l2 l3 l4 hD hD0
  generalize m1 * m2 = x at *
  have LX : Hid (∀ (s : Sl) (W : World), NumAt W s x → s.len ≤ 500) := Lib.hid fun s W h => lt_len h X1 (by omega)
  have LD : Hid (∀ (s : Sl) (W : World), NumAt W s D → s.len ≤ 500) := Lib.hid fun s W h => lt_len h X3 (by omega)
  clear X1 X3
  go_enter Try.func39, Try.ntmps39
  go_wp2_with fail
  go_region_held3 (fun w' => w'.cell? ⟨w.heap.size, 0, none⟩ = some (.bool b1) ∧ w'.cell? ⟨w.heap.size, 1, none⟩ = some (.slice a1 n1 c1) ∧ w'.cell? ⟨w.heap.size, 2, none⟩ = some (.slice a2 n2 c2) ∧ w'.cell? ⟨w.heap.size + 1, 0, none⟩ = some (.bool b2) ∧ w'.cell? ⟨w.heap.size + 1, 1, none⟩ = some (.slice a3 n3 c3) ∧ w'.cell? ⟨w.heap.size + 1, 2, none⟩ = some (.slice a4 n4 c4))
    (first | (simp only [cell_a30, cell_a31]; assumption) | (go_keep; done) | (refine ⟨?_, ?_, ?_, ?_, ?_, ?_⟩ <;> (rw [Ext.cell _ _ (by first | (simp; done) | (simp; omega) | omega)]; simp [*]; done)))
    (first
      | (go_at_call 69; (with_reducible refine Calls.mono (C1.out _ ?_) ?_); (focus (repeat first | with_reducible exact Below.refl _ _ | with_reducible refine Below.setCell ?_ (by first | omega | (simp; done) | (simp; omega)) _ | with_reducible refine Below.alloc ?_ (by first | omega | (simp; done) | (simp; omega)) _ | with_reducible refine Below.drew ?_ | with_reducible refine Ext.on _ ?_ (by first | omega | (simp; done) | (simp; omega)))); rintro e _ ⟨sx, rfl, hx, ⟨yx, rfl⟩⟩; have yxs := yx.size; (try simp at yxs); have yxa : w.heap.size < yx.val.heap.size := (by omega); have yxb : w.heap.size + 1 < yx.val.heap.size := (by omega); have yxc : w.heap.size + 1 + 1 < yx.val.heap.size := (by omega))
      | (go_at_call 69; (with_reducible refine Calls.mono (C2.out _ ?_) ?_); (focus (repeat first | with_reducible exact Below.refl _ _ | with_reducible refine Below.setCell ?_ (by first | omega | (simp; done) | (simp; omega)) _ | with_reducible refine Below.alloc ?_ (by first | omega | (simp; done) | (simp; omega)) _ | with_reducible refine Below.drew ?_ | with_reducible refine Ext.on _ ?_ (by first | omega | (simp; done) | (simp; omega)))); rintro e _ ⟨sy, rfl, hy, ⟨yy, rfl⟩⟩; have yys := yy.size; (try simp at yys); have yya : w.heap.size < yy.val.heap.size := (by omega); have yyb : w.heap.size + 1 < yy.val.heap.size := (by omega); have yyc : w.heap.size + 1 + 1 < yy.val.heap.size := (by omega))
      | (go_at_call 68; have G := Lib.hid (fun W hb1 hb2 => lowest_calls (!(b1 == b2)) sx.a sx.len sx.cap sy.a sy.len sy.cap _ _ W (hx.later hb1) (hy.later hb2) (LX.out _ _ hx) (LD.out _ _ hy) HD0.out); rw [EE.out] at G; (with_reducible refine Calls.mono (G.out _ ?_ ?_) ?_); (focus (repeat first | with_reducible exact Below.refl _ _ | with_reducible refine Below.setCell ?_ (by first | omega | (simp; done) | (simp; omega)) _ | with_reducible refine Below.alloc ?_ (by first | omega | (simp; done) | (simp; omega)) _ | with_reducible refine Below.drew ?_ | with_reducible refine Ext.on _ ?_ (by first | omega | (simp; done) | (simp; omega)))); (focus (repeat first | with_reducible exact Below.refl _ _ | with_reducible refine Below.setCell ?_ (by first | omega | (simp; done) | (simp; omega)) _ | with_reducible refine Below.alloc ?_ (by first | omega | (simp; done) | (simp; omega)) _ | with_reducible refine Below.drew ?_ | with_reducible refine Ext.on _ ?_ (by first | omega | (simp; done) | (simp; omega)))); rintro e _ ⟨sn, st, rfl, hn, ht, ⟨yl, rfl⟩⟩; have yls := yl.size; (try simp at yls); have yla : w.heap.size < yl.val.heap.size := (by omega); have ylb : w.heap.size + 1 < yl.val.heap.size := (by omega); have ylc : w.heap.size + 1 + 1 < yl.val.heap.size := (by omega); have T0 : yx.val.heap[w.heap.size + 1 + 1]? = some (Obj.cells #[.bool false, .slice none 0 0, .slice none 0 0] 67) := (yx.below.block (w.heap.size + 1 + 1) (by simp)).trans (new_at2d w _ _ _ _); have T1 : yy.val.heap[w.heap.size + 1 + 1]? = some (Obj.cells #[.bool false, .slice none 0 0, .slice none 0 0] 67) := (yy.below.block (w.heap.size + 1 + 1) (by first | omega | (simp; omega))).trans T0; have T2 : yl.val.heap[w.heap.size + 1 + 1]? = some (Obj.cells #[.bool false, .slice none 0 0, .slice none 0 0] 67) := (yl.below.block (w.heap.size + 1 + 1) (by first | omega | (simp; omega))).trans T1; have HT := Lib.hid T2; obtain ⟨k0, k1, k2, k3, k4, k5, k6⟩ := three_b HT.out; clear G))
  have HB : Below w.heap.size w yl.val := by repeat first | with_reducible exact Below.refl _ _ | with_reducible refine Below.setCell ?_ (by first | omega | (simp; done) | (simp; omega)) _ | with_reducible refine Below.alloc ?_ (by first | omega | (simp; done) | (simp; omega)) _ | with_reducible refine Below.drew ?_ | with_reducible refine Ext.on _ ?_ (by first | omega | (simp; done) | (simp; omega))
  go_wp2
  refine ret_ex rfl ?_
  simp [results, Try.results39, go_sem, k4, k5, k6]
  refine ⟨sn, st, by simp, NumAt.store3 hn HT.out _ _ _, NumAt.store3 ht HT.out _ _ _, Cls.of (below3 HB (by omega) _ _ _)⟩
theorem Times_calls (N1 N2 : Int) (D1 D2 : Nat) (a1 : Option Addr) (n1 c1 : Nat) (a2 : Option Addr) (n2 c2 : Nat) (a3 : Option Addr) (n3 c3 : Nat) (a4 : Option Addr) (n4 c4 : Nat) (w : World) (h1 : NumAt w ⟨a1, n1, c1⟩ N1.natAbs) (h2 : NumAt w ⟨a2, n2, c2⟩ D1) (h3 : NumAt w ⟨a3, n3, c3⟩ N2.natAbs) (h4 : NumAt w ⟨a4, n4, c4⟩ D2)
    (k1 : N1.natAbs < 1000000000 ^ 100) (k2 : D1 < 1000000000 ^ 100) (k3 : N2.natAbs < 1000000000 ^ 100) (k4 : D2 < 1000000000 ^ 100) (hD0 : 0 < D1 * D2) :
    Calls Try.prog 39 #[.agg #[.bool (decide (N1 < 0)), .slice a1 n1 c1, .slice a2 n2 c2], .agg #[.bool (decide (N2 < 0)), .slice a3 n3 c3, .slice a4 n4 c4]] w (RBig w (N1 * N2) (D1 * D2)) :=
  rTimes_way _ _ a1 n1 c1 a2 n2 c2 a3 n3 c3 a4 n4 c4 N1.natAbs D1 N2.natAbs D2 _ _ w h1 h2 h3 h4 k1 k2 k3 k4 rfl hD0 (sg_mul N1 N2)
end Go.Proofs.Ythbdkhmgopahbaa
set_option linter.unusedVariables false
namespace Go.Proofs.Ythbdkhmgopahbaa
open Go Go.RowKit Go.Deep
theorem wp_big {n k : Nat} (h : n < wp k) (hk : k ≤ 33) : n < 1000000000 ^ 100 := by
  have h1 : ∀ j, wp j ≤ 1000000000 ^ (3 * j) := by
    intro j
    unfold wp
    rw [Nat.pow_mul]
    exact Nat.pow_le_pow_left (by rw [show (1000000000 : Nat) ^ 3 = 1000000000000000000000000000 from rfl]; omega) j
  exact pow_big (Nat.lt_of_lt_of_le h (h1 k)) (by omega)
/-- A sum of two fractions in lowest terms. -/
theorem fr_add (N1 N2 : Int) {D1 D2 : Nat} (h1 : 0 < D1) (h2 : 0 < D2) :
    frI (frI N1 D1 * (frd N2 D2 : Int) + frI N2 D2 * (frd N1 D1 : Int)) (frd N1 D1 * frd N2 D2) = frI (N1 * D2 + N2 * D1) (D1 * D2) ∧ frd (frI N1 D1 * (frd N2 D2 : Int) + frI N2 D2 * (frd N1 D1 : Int)) (frd N1 D1 * frd N2 D2) = frd (N1 * D2 + N2 * D1) (D1 * D2) := by
  have a1 := frI_mul N1 D1
  have a2 := frd_mul N1 D1
  have a3 := gcd_pos_right (a := N1.natAbs) h1
  have a4 := frd_pos N1 h1
  have b1 := frI_mul N2 D2
  have b2 := frd_mul N2 D2
  have b3 := gcd_pos_right (a := N2.natAbs) h2
  have b4 := frd_pos N2 h2
  generalize frI N1 D1 = v1 at *
  generalize frd N1 D1 = d1 at *
  generalize Nat.gcd N1.natAbs D1 = c1 at *
  generalize frI N2 D2 = v2 at *
  generalize frd N2 D2 = d2 at *
  generalize Nat.gcd N2.natAbs D2 = c2 at *
  have hs := fr_scale (Nat.mul_pos a3 b3) (v1 * d2 + v2 * d1) (Nat.mul_pos a4 b4)
  have e1 : ((c1 * c2 : Nat) : Int) * (v1 * d2 + v2 * d1) = N1 * D2 + N2 * D1 := by
    rw [Int.mul_add, ← a1, ← b1, ← a2, ← b2, Int.natCast_mul, Int.natCast_mul, Int.natCast_mul]
    congr 1 <;> ac_rfl
  have e2 : c1 * c2 * (d1 * d2) = D1 * D2 := by rw [← a2, ← b2]; ac_rfl
  rw [e1, e2] at hs
  exact ⟨hs.1.symm, hs.2.symm⟩
set_option maxHeartbeats 4000000 in
set_option maxRecDepth 20000 in
theorem rWhole_calls (n : Int) (w : World) (h : In64 n) :
    Calls Try.prog 38 #[.int .i64 n] w fun e w' => ∃ s t : Sl, e = .returned (.agg #[.bool (decide (n < 0)), .slice s.a s.len s.cap, .slice t.a t.len t.cap]) ∧ NumAt w' s n.natAbs ∧ NumAt w' t 1 ∧ Cls w w' := by
  have C1 := Lib.hid (fun W => of_calls n W h.1 h.2)
  clear h
  go_enter Try.func38, Try.ntmps38
  go_wp2_with (go_at_call 67; (with_reducible refine (C1.out _).mono ?_); rintro e _ ⟨s, rfl, hs, ⟨y, rfl⟩⟩; have ys := y.size; (try simp at ys); have ya : w.heap.size < y.val.heap.size := (by omega); have HT := Lib.hid ((y.below.block w.heap.size (by simp)).trans (heap_alloc_new w _)); obtain ⟨k0, k1, k2, k3, k4, k5, k6⟩ := three_b HT.out)
  have HB : Below w.heap.size w y.val := by repeat first | with_reducible exact Below.refl _ _ | with_reducible refine Below.setCell ?_ (by first | omega | (simp; done) | (simp; omega)) _ | with_reducible refine Below.alloc ?_ (by first | omega | (simp; done) | (simp; omega)) _ | with_reducible refine Below.drew ?_ | with_reducible refine Ext.on _ ?_ (by first | omega | (simp; done) | (simp; omega))
  have H1 : ∀ v0 v1 v2 o, NumAt ((((y.val.setCell ⟨w.heap.size, 0, none⟩ v0).setCell ⟨w.heap.size, 1, none⟩ v1).setCell ⟨w.heap.size, 2, none⟩ v2).alloc o) s n.natAbs := fun v0 v1 v2 o => (NumAt.store3 hs HT.out v0 v1 v2).later ((Below.refl _ _).alloc (Nat.le_refl _) _)
  have H2 : ∀ v0 v1 v2, NumAt ((((y.val.setCell ⟨w.heap.size, 0, none⟩ v0).setCell ⟨w.heap.size, 1, none⟩ v1).setCell ⟨w.heap.size, 2, none⟩ v2).alloc (.cells #[.int .u64 1] 91)) ⟨some ⟨y.val.heap.size, 0, none⟩, 1, 1⟩ 1 := fun v0 v1 v2 => by
    have := one_num (((y.val.setCell ⟨w.heap.size, 0, none⟩ v0).setCell ⟨w.heap.size, 1, none⟩ v1).setCell ⟨w.heap.size, 2, none⟩ v2) 91
    simpa using this
  refine ret_ex rfl ⟨.agg #[.bool (decide (n < 0)), .slice s.a s.len s.cap, .slice (some ⟨y.val.heap.size, 0, none⟩) 1 1], by simp [results, Try.results38, go_sem, k4, k5, k6, ya], ⟨s, ⟨some ⟨y.val.heap.size, 0, none⟩, 1, 1⟩, rfl, ?_, ?_, ?_⟩⟩
  · exact H1 _ _ _ _
  · exact H2 _ _ _
  · exact Cls.of ((below3 HB (Nat.le_refl _) _ _ _).alloc (by simpa using Nat.le_of_lt ya) _)
set_option maxHeartbeats 8000000 in
set_option maxRecDepth 20000 in
theorem rLess_calls (N1 N2 : Int) (D1 D2 : Nat) (a1 : Option Addr) (n1 c1 : Nat) (a2 : Option Addr) (n2 c2 : Nat) (a3 : Option Addr) (n3 c3 : Nat) (a4 : Option Addr) (n4 c4 : Nat) (w : World) (h1 : NumAt w ⟨a1, n1, c1⟩ N1.natAbs) (h2 : NumAt w ⟨a2, n2, c2⟩ D1) (h3 : NumAt w ⟨a3, n3, c3⟩ N2.natAbs) (h4 : NumAt w ⟨a4, n4, c4⟩ D2)
    (k1 : N1.natAbs < 1000000000 ^ 100) (k2 : D1 < 1000000000 ^ 100) (k3 : N2.natAbs < 1000000000 ^ 100) (k4 : D2 < 1000000000 ^ 100) (hD1 : 0 < D1) (hD2 : 0 < D2) :
    Calls Try.prog 42 #[.agg #[.bool (decide (N1 < 0)), .slice a1 n1 c1, .slice a2 n2 c2], .agg #[.bool (decide (N2 < 0)), .slice a3 n3 c3, .slice a4 n4 c4]] w fun e w' => e = .returned (.bool (decide (N1 * D2 < N2 * D1))) ∧ Cls w w' := by
  have NB : Hid (∀ (W : World) (s : Sl), NumAt W s N2.natAbs → NumAt W s (-N2).natAbs) := Lib.hid fun W s h => by rwa [Int.natAbs_neg]
  obtain ⟨gb, hgb⟩ : ∃ gb, decide (-N2 < 0) = gb := ⟨_, rfl⟩
  have C1 := Lib.hid (fun (W : World) (hb : Below w.heap.size w W) => Turned_calls N2 a3 n3 c3 a4 n4 c4 W (h3.later hb))
  have C2 := Lib.hid (fun (W : World) (hb : Below w.heap.size w W) => Plus_calls N1 (-N2) D1 D2 a1 n1 c1 a2 n2 c2 a3 n3 c3 a4 n4 c4 W (h1.later hb) (h2.later hb) (NB.out _ _ (h3.later hb)) (h4.later hb) k1 k2 (by simpa using k3) k4 (Nat.mul_pos hD1 hD2))
  rw [hgb] at C1 C2
  have ER : Hid (decide (cmpI (frI (N1 * D2 + -N2 * D1) (D1 * D2)) 0 < 0) = decide (N1 * D2 < N2 * D1)) := Lib.hid (by
    rw [sign_fr _ (Nat.mul_pos hD1 hD2), Int.neg_mul, cmpI_sub]
    rw [Bool.eq_iff_iff, decide_eq_true_iff, decide_eq_true_iff]
    unfold cmpI
    split <;> (try split) <;> omega)
  have C3 : Hid (∀ (W : World) (s t : Sl), NumAt W s (frI (N1 * D2 + -N2 * D1) (D1 * D2)).natAbs → Calls Try.prog 40 #[.agg #[.bool (decide (frI (N1 * D2 + -N2 * D1) (D1 * D2) < 0)), .slice s.a s.len s.cap, .slice t.a t.len t.cap]] W fun e w' => e = .returned (.int .i64 (cmpI (frI (N1 * D2 + -N2 * D1) (D1 * D2)) 0)) ∧ Cls W w') := Lib.hid fun W s t hs => Sign_calls _ s.a s.len s.cap t.a t.len t.cap W hs
  clear h1 h2 h3 h4 k1 k2 k3 k4 hD1 hD2 NB hgb
  generalize decide (N1 * D2 < N2 * D1) = rr at *
  generalize N1 * D2 + -N2 * D1 = N at *
  generalize D1 * D2 = D at *
  obtain ⟨g1, hg1⟩ : ∃ g, decide (N1 < 0) = g := ⟨_, rfl⟩
  obtain ⟨g2, hg2⟩ : ∃ g, decide (N2 < 0) = g := ⟨_, rfl⟩
  rw [hg1] at C2 ⊢
  rw [hg2] at C1 ⊢
  clear hg1 hg2
  generalize cmpI (frI N D) 0 = cc at *
  go_enter Try.func42, Try.ntmps42
  go_wp2_with fail
  go_region_held3 (fun w' => w'.cell? ⟨w.heap.size, 0, none⟩ = some (.bool g1) ∧ w'.cell? ⟨w.heap.size, 1, none⟩ = some (.slice a1 n1 c1) ∧ w'.cell? ⟨w.heap.size, 2, none⟩ = some (.slice a2 n2 c2) ∧ w'.cell? ⟨w.heap.size + 1, 0, none⟩ = some (.bool g2) ∧ w'.cell? ⟨w.heap.size + 1, 1, none⟩ = some (.slice a3 n3 c3) ∧ w'.cell? ⟨w.heap.size + 1, 2, none⟩ = some (.slice a4 n4 c4))
    (first | (go_keep; done) | (refine ⟨?_, ?_, ?_, ?_, ?_, ?_⟩ <;> (rw [Ext.cell _ _ (by first | (simp; done) | (simp; omega) | omega)]; simp [*]; done)))
    (first
      | (go_at_call 73; (with_reducible refine Calls.mono (C1.out _ ?_) ?_); (focus (repeat first | with_reducible exact Below.refl _ _ | with_reducible refine Below.setCell ?_ (by first | omega | (simp; done) | (simp; omega)) _ | with_reducible refine Below.alloc ?_ (by first | omega | (simp; done) | (simp; omega)) _ | with_reducible refine Below.drew ?_ | with_reducible refine Ext.on _ ?_ (by first | omega | (simp; done) | (simp; omega)))); rintro e _ ⟨rfl, ⟨yt, rfl⟩⟩; have yts := yt.size; (try simp at yts); have yta : w.heap.size < yt.val.heap.size := (by omega); have ytb : w.heap.size + 1 < yt.val.heap.size := (by omega))
      | (go_at_call 41; (with_reducible refine Calls.mono (C2.out _ ?_) ?_); (focus (repeat first | with_reducible exact Below.refl _ _ | with_reducible refine Below.setCell ?_ (by first | omega | (simp; done) | (simp; omega)) _ | with_reducible refine Below.alloc ?_ (by first | omega | (simp; done) | (simp; omega)) _ | with_reducible refine Below.drew ?_ | with_reducible refine Ext.on _ ?_ (by first | omega | (simp; done) | (simp; omega)))); rintro e _ ⟨sn, st, rfl, hsn, hst, ⟨yp, rfl⟩⟩; have yps := yp.size; (try simp at yps); have ypa : w.heap.size < yp.val.heap.size := (by omega); have ypb : w.heap.size + 1 < yp.val.heap.size := (by omega))
      | (go_at_call 40; have G := Lib.hid (fun W hb => C3.out W sn st (hsn.later hb)); (with_reducible refine Calls.mono (G.out _ ?_) ?_); (focus (repeat first | with_reducible exact Below.refl _ _ | with_reducible refine Below.setCell ?_ (by first | omega | (simp; done) | (simp; omega)) _ | with_reducible refine Below.alloc ?_ (by first | omega | (simp; done) | (simp; omega)) _ | with_reducible refine Below.drew ?_ | with_reducible refine Ext.on _ ?_ (by first | omega | (simp; done) | (simp; omega)))); rintro e _ ⟨rfl, ⟨yf, rfl⟩⟩; have yfs := yf.size; (try simp at yfs); have yfa : w.heap.size < yf.val.heap.size := (by omega); have yfb : w.heap.size + 1 < yf.val.heap.size := (by omega); clear G))
  all_goals
    have HB : Below w.heap.size w yf.val := by repeat first | with_reducible exact Below.refl _ _ | with_reducible refine Below.setCell ?_ (by first | omega | (simp; done) | (simp; omega)) _ | with_reducible refine Below.alloc ?_ (by first | omega | (simp; done) | (simp; omega)) _ | with_reducible refine Below.drew ?_ | with_reducible refine Ext.on _ ?_ (by first | omega | (simp; done) | (simp; omega))
    go_wp2
    go_ret
    exact ⟨ret_bool ER.out, Cls.of HB⟩
end Go.Proofs.Ythbdkhmgopahbaa
