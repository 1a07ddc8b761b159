/-
  The program's sums of fractions: all terms; what is compared with a fraction.
-/
import Derived.Test.YtilhhbjdcdediaaJ15
import Derived.Test.YtilhhbjdcdediaaJ08
set_option linter.unusedVariables false
namespace Go.Proofs.Ytilhhbjdcdediaa
open Go Go.RowKit Go.Deep
/-- Where the sum lies: in block b; the first new block is the result's, still empty. -/
def TotAt (w0 : World) (b : Nat) (N : Int) (D : Nat) (wr : World) : Prop := ∃ (g : Bool) (s t : Sl), wr.heap[b]? = some (.cells #[.bool g, .slice s.a s.len s.cap, .slice t.a t.len t.cap] 60) ∧ wr.heap[w0.heap.size]? = some (.cells #[.bool false, .slice none 0 0, .slice none 0 0] 60) ∧ IAt wr g s (frI N D) ∧ NatAt wr t (frd N D) ∧ Below w0.heap.size w0 wr
theorem TotAt.mk' {w0 W : World} {b : Nat} {N : Int} {D : Nat} {g x : Bool} {s t : Sl} {a a' : Option Addr} {n c n' c' : Nat} (hT : W.heap[b]? = some (.cells #[.bool x, .slice a n c, .slice a' n' c'] 60)) (h0 : W.heap[w0.heap.size]? = some (.cells #[.bool false, .slice none 0 0, .slice none 0 0] 60)) (hne : w0.heap.size < b) (hs : IAt W g s (frI N D)) (ht : NatAt W t (frd N D)) (hb : Below w0.heap.size w0 W) :
    TotAt w0 b N D (((W.setCell ⟨b, 0, none⟩ (.bool g)).setCell ⟨b, 1, none⟩ (.slice s.a s.len s.cap)).setCell ⟨b, 2, none⟩ (.slice t.a t.len t.cap)) := by
  have hne' : w0.heap.size ≠ b := by omega
  refine ⟨g, s, t, ?_, ?_, ⟨NatAt.store3 hs.1 hT _ _ _, hs.2⟩, NatAt.store3 ht hT _ _ _, below3 hb (by omega) _ _ _⟩
  · rw [heap_setCell_same _ _ _ _ _ _ (heap_setCell_same _ _ _ _ _ _ (heap_setCell_same _ _ _ _ _ _ hT))]
    simp
  · rw [heap_setCell_other _ _ _ _ hne', heap_setCell_other _ _ _ _ hne', heap_setCell_other _ _ _ _ hne']
    exact h0
theorem TotAt.drew {w0 wr : World} {b : Nat} {N : Int} {D : Nat} (h : TotAt w0 b N D wr) : TotAt w0 b N D wr.drew := by
  obtain ⟨g, s, t, h1, h2, h3, h4, h5⟩ := h
  exact ⟨g, s, t, h1, h2, h3, h4, h5.drew⟩
theorem one_nat (w : World) (t : TypeId) : NatAt (w.alloc (.cells #[.int .u64 1] t)) ⟨some ⟨w.heap.size, 0, none⟩, 1, 1⟩ 1 := by
  unfold NatAt
  rw [wdigs_one]
  exact UAt.new w [1] _ t 1 rfl (by simp [flatU]) (by simp)
theorem zero_nat (w : World) : NatAt w ⟨none, 0, 0⟩ 0 := by unfold NatAt; rw [wdigs_zero]; exact UAt.nil
theorem fr_base : frI 0 1 = 0 ∧ frd 0 1 = 1 := ⟨frI_zero 1, frd_zero (by omega)⟩
set_option maxHeartbeats 16000000 in
set_option maxRecDepth 20000 in
theorem total_calls (a : Option Addr) (n c : Nat) (ns : Nat → Int) (a' : Option Addr) (n' c' : Nat) (fn : Nat → Int) (fd : Nat → Int) (w : World) (h : IntsA w ⟨a, n, c⟩ ns) (h' : FrsA w ⟨a', n', c'⟩ fn fd) (hnn : n ≤ n') (hn : n ≤ 90) (hk : ∀ i, i < n → (ns i).natAbs < 9223372036854775808) (hv : ∀ i, i < n → vaB (fn i) (fd i) = true) :
    Calls Try.prog 26 #[.slice a n c, .slice a' n' c'] w (SumR w (totN ns fn (fun i => (fd i).natAbs) n) (totD (fun i => (fd i).natAbs) n)) := by
  obtain ⟨hle, hmax, hh⟩ := h
  obtain ⟨hle', hmax', hh'⟩ := h'
  simp only at hle hmax hh hle' hmax' hh'
  unfold maxLen at hmax hmax'
  have H := Lib.hid hh
  have H' := Lib.hid hh'
  have HV := Lib.hid hv
  have HK := Lib.hid hk
  have HD : Hid (∀ k, k ≤ n → 0 < totD (fun i => (fd i).natAbs) k) := Lib.hid fun k hk => totD_pos k fun i hi => by
    have := (vaB_rng (HV.out i (by omega))).1
    show 0 < (fd i).natAbs
    omega
  have HB : Hid (∀ k, k ≤ n → (totN ns fn (fun i => (fd i).natAbs) k).natAbs < wp 200 ∧ totD (fun i => (fd i).natAbs) k < wp 200) := Lib.hid fun k hk => by
    refine ⟨wp_mono (totN_lt k fun i hi => ?_) (by omega), wp_mono (totD_lt k fun i hi => ?_) (by omega)⟩
    · obtain ⟨b1, b2, b3, b4⟩ := vaB_rng (HV.out i (by omega))
      have := HK.out i (by omega)
      show (fd i).natAbs < _ ∧ _ ∧ _
      omega
    · obtain ⟨b1, b2, b3, b4⟩ := vaB_rng (HV.out i (by omega))
      show (fd i).natAbs < _
      omega
  clear hh hh' hv hk
  go_enter Try.func26, Try.ntmps26
  go_wp2_with fail
  go_loopw [12] (fun i wr => ∃ k : Nat, k ≤ n ∧ i = .int .i64 k ∧ Hid (TotAt w (w.heap.size + 1 + 1) (totN ns fn (fun i => (fd i).natAbs) k) (totD (fun i => (fd i).natAbs) k) wr)) (fun i _ => 1000 - (intOf i).toNat)
  case atStart =>
    refine ⟨0, by omega, rfl, Lib.hid ⟨false, ⟨none, 0, 0⟩, ⟨some ⟨w.heap.size + 1, 0, none⟩, 1, 1⟩, new_at2 w _ _ _ _, new3_0 w _ _ _, ?_, ?_, ?_⟩⟩
    · show IAt _ false _ (frI 0 1)
      rw [fr_base.1]
      exact ⟨zero_nat _, SgOf.false_nat 0⟩
    · show NatAt _ _ (frd 0 1)
      rw [fr_base.2]
      have := (one_nat (w.alloc (.cells #[.bool false, .slice none 0 0, .slice none 0 0] 60)) 91).later ((Below.refl _ _).alloc (Nat.le_refl _) (.cells #[.bool false, .slice none 0 0, .slice (some ⟨w.heap.size + 1, 0, none⟩) 1 1] 60))
      simpa using this
    · repeat first | with_reducible exact Below.refl _ _ | with_reducible refine Below.setCell ?_ (by first | omega | (simp; done) | (simp; omega)) _ | with_reducible refine Below.alloc ?_ (by first | omega | (simp; done) | (simp; omega)) _ | with_reducible refine Below.drew ?_ | with_reducible refine Ext.on _ ?_ (by first | omega | (simp; done) | (simp; omega))
  case round =>
    obtain ⟨k, hk, rfl, hT⟩ := hrel
    obtain ⟨g, s, t, hT1, hT0, hs, ht, hbel⟩ := hT.out
    have hbs := hbel.size
    obtain ⟨hbl, _, _, _, z0, z1, z2⟩ := three_n hT1
    obtain ⟨h0l, o0, o1, o2, e0, e1, e2⟩ := three_n hT0
    by_cases hlt : k < n
    · obtain ⟨b, off, ea, hb, hcell⟩ := H.out.resolve_left (by omega)
      obtain ⟨b', off', ea', hb', hcell'⟩ := H'.out.resolve_left (by omega)
      subst ea ea'
      have q0 := (hbel.cell (p := ⟨b, off + k, none⟩) hb).trans (hcell k hlt)
      obtain ⟨r0, r1⟩ := hcell' k (by omega)
      have q1 := (hbel.cell (p := ⟨b', off' + k * 2, none⟩) hb').trans r0
      have q2 := (hbel.cell (p := ⟨b', off' + k * 2 + 1, none⟩) hb').trans r1
      have hb1 : b < wr.heap.size := by omega
      have hb2 : b' < wr.heap.size := by omega
      have hva := HV.out k hlt
      have hfdk : fd k = (((fd k).natAbs : Nat) : Int) := by have := (vaB_rng hva).1; omega
      have hco := fr_coprime (totN ns fn (fun i => (fd i).natAbs) k) (HD.out k hk)
      have hst := fr_step (totN ns fn (fun i => (fd i).natAbs) k) (HD.out k hk) (ns k) (fn k) (b := (fd k).natAbs) (by have := (vaB_rng hva).1; omega)
      have C1 : Hid (∀ W, Below wr.heap.size wr W → Calls Try.prog 57 #[.agg #[.bool g, .slice s.a s.len s.cap, .slice t.a t.len t.cap], .int .i64 (ns k), .agg #[.int .i64 (fn k), .int .i64 (fd k)]] W (SumR W (totN ns fn (fun i => (fd i).natAbs) (k + 1)) (totD (fun i => (fd i).natAbs) (k + 1)))) := Lib.hid fun W hW => by
        have hc := lsum_calls g s.a s.len s.cap t.a t.len t.cap _ _ (ns k) (fn k) (fd k).natAbs W (hs.later hW) (ht.later hW) (frd_pos _ (HD.out k hk)) hco (frI_lt (HB.out k hk).1) (frd_lt (HB.out k hk).2) (HK.out k hlt) (by rw [← hfdk]; exact hva)
        rw [← hfdk] at hc
        refine hc.mono fun e w' hr => ?_
        obtain ⟨g', s', t', he, h1, h2, h3⟩ := hr
        rw [← hfdk] at hst
        rw [hst.1] at h1
        rw [hst.2] at h2
        refine ⟨g', s', t', he, ?_, ?_, h3⟩
        · have e : totN ns fn (fun i => (fd i).natAbs) (k + 1) = totN ns fn (fun i => (fd i).natAbs) k * fd k + ns k * fn k * (totD (fun i => (fd i).natAbs) k : Int) := by
            show totN ns fn (fun i => (fd i).natAbs) k * (((fd k).natAbs : Nat) : Int) + _ = _
            rw [← hfdk]
          rw [e]; exact h1
        · have e : totN ns fn (fun i => (fd i).natAbs) (k + 1) = totN ns fn (fun i => (fd i).natAbs) k * fd k + ns k * fn k * (totD (fun i => (fd i).natAbs) k : Int) := by
            show totN ns fn (fun i => (fd i).natAbs) k * (((fd k).natAbs : Nat) : Int) + _ = _
            rw [← hfdk]
          rw [e]; exact h2
      have HT1 := Lib.hid hT1
      have HT0 := Lib.hid hT0
      have HBL := Lib.hid hbel
      have hkn' : k < n' := by omega
      clear hcell hcell' r0 r1 hva hfdk hco hst hs ht hT1 hT0 hbel H H' HV HK HD HB hT o0 o1 o2 e0 e1 e2
      generalize ns k = p at *
      generalize fn k = u at *
      generalize fd k = v at *
      generalize hN1 : totN ns fn (fun i => (fd i).natAbs) (k + 1) = N1 at *
      generalize hD1 : totD (fun i => (fd i).natAbs) (k + 1) = D1 at *
      have HN1 := Lib.hid hN1
      have HD1 := Lib.hid hD1
      clear hN1 hD1
      go_wp2_with fail
      go_region_with (first
          | (go_at_call 57; (with_reducible refine Calls.mono (C1.out _ ?_) ?_); (focus (repeat first | with_reducible exact Below.refl _ _ | with_reducible refine Below.setCell ?_ (by first | omega | (simp; done) | (simp; omega)) _ | with_reducible refine Below.alloc ?_ (by first | omega | (simp; done) | (simp; omega)) _ | with_reducible refine Below.drew ?_ | with_reducible refine Ext.on _ ?_ (by first | omega | (simp; done) | (simp; omega)))); rintro e _ ⟨g', s', t', rfl, hs', ht', ⟨y, rfl⟩⟩; have ys := y.size; (try simp at ys); have hTy := Lib.hid ((y.below.block (w.heap.size + 1 + 1) hbl).trans HT1.out); have hT0y := Lib.hid ((y.below.block w.heap.size h0l).trans HT0.out); obtain ⟨m0, m1, m2, m3, m4, m5, m6⟩ := three_n hTy.out))
      all_goals
        have HB0 : Below w.heap.size w y.val := y.on HBL.out.drew (by simpa using hbs)
        have HF := Lib.hid (TotAt.mk' (N := N1) (D := D1) hTy.out hT0y.out (by omega) hs' ht' HB0)
        go_wp2_with fail
        go_roundw
        case rel => exact ⟨k + 1, by omega, by go_num, Lib.hid (by rw [HN1.out, HD1.out]; first | exact HF.out | exact HF.out.drew)⟩
        case measure => first | (simp [intOf]; done) | (simp [intOf]; omega)
    · obtain rfl : k = n := by omega
      have HT0 := Lib.hid hT0
      have HS := Lib.hid hs
      have HTT := Lib.hid ht
      have HBL := Lib.hid hbel
      clear hs ht hT1 hT0 hbel H H' HV HK HD HB hT
      go_wp2_with fail
      refine ret_ex rfl ⟨.agg #[.bool g, .slice s.a s.len s.cap, .slice t.a t.len t.cap], by simp [results, Try.results26, go_sem, e0, e1, e2], ⟨g, s, t, rfl, ⟨NatAt.store3 HS.out.1 HT0.out _ _ _, HS.out.2⟩, NatAt.store3 HTT.out HT0.out _ _ _, Cls.of (below3 HBL.out (Nat.le_refl _) _ _ _)⟩⟩
theorem field0 (g : Bool) (a : Option Addr) (n c : Nat) (a' : Option Addr) (n' c' : Nat) (W : World) : Sem.run Try.prog (Instr.field 60 (.agg #[.bool g, .slice a n c, .slice a' n' c']) 0) W = .ok (.agg #[.bool g, .slice a n c]) W := by
  kernel_rfl
set_option maxHeartbeats 8000000 in
set_option maxRecDepth 20000 in
theorem lcmp_calls (g : Bool) (a : Option Addr) (n c : Nat) (a' : Option Addr) (n' c' : Nat) (N : Int) (D : Nat) (fn : Int) (fd : Nat) (w : World) (h : IAt w g ⟨a, n, c⟩ (frI N D)) (h' : NatAt w ⟨a', n', c'⟩ (frd N D)) (hD : 0 < D) (hN : N.natAbs < wp 200) (hDw : D < wp 200) (hf : vaB fn fd = true) :
    Calls Try.prog 36 #[.agg #[.bool g, .slice a n c, .slice a' n' c'], .agg #[.int .i64 fn, .int .i64 fd]] w fun e w' => e = .returned (.int .i64 (cmpI (N * fd) (fn * D))) ∧ Cls w w' := by
  have hfd : 0 < fd := by have := (vaB_rng hf).1; omega
  have C1 : Hid (∀ W, Below w.heap.size w W → Calls Try.prog 57 #[.agg #[.bool g, .slice a n c, .slice a' n' c'], .int .i64 (-1), .agg #[.int .i64 fn, .int .i64 fd]] W (SumR W (frI N D * fd + (-1) * fn * (frd N D : Int)) (frd N D * fd))) := Lib.hid fun W hW => lsum_calls g a n c a' n' c' _ _ (-1) fn fd W (h.later hW) (h'.later hW) (frd_pos _ hD) (fr_coprime _ hD) (frI_lt hN) (frd_lt hDw) (by decide) hf
  have hst := fr_step N hD (-1) fn hfd
  have ER : Hid (∀ (g : Bool) (m : Int), SgOf g m → m = frI (frI N D * fd + (-1) * fn * (frd N D : Int)) (frd N D * fd) → sgI g m.natAbs = cmpI (N * fd) (fn * D)) := Lib.hid fun g m hg hm => by
    rw [hst.1] at hm
    have e1 : sgI g m.natAbs = cmpI m 0 := by
      have e2 : sgB g m.natAbs = m := hg
      unfold sgI cmpI
      cases g <;> simp only [sgB] at e2 <;> (repeat (first | rfl | rw [if_pos (by omega)] | rw [if_neg (by omega)])) <;> simp at * <;> omega
    rw [e1, hm, sign_fr _ (Nat.mul_pos hD hfd)]
    have e3 : N * fd + -1 * fn * (D : Int) = N * fd + -(fn * D) := by
      rw [show (-1 : Int) * fn = -fn by omega, Int.neg_mul]
    rw [e3, cmpI_sub]
  clear h h' hD hN hDw hf hfd hst
  generalize hX : cmpI (N * fd) (fn * D) = rr at *
  clear hX
  generalize frI N D * fd + (-1) * fn * (frd N D : Int) = N1 at *
  generalize frd N D * fd = D1 at *
  have HF0 := field0
  go_enter Try.func36, Try.ntmps36
  go_wp2_with (first | (go_at_call 57; (with_reducible refine Calls.mono (C1.out _ ?_) ?_); (focus (repeat first | with_reducible exact Below.refl _ _ | with_reducible refine Below.setCell ?_ (by first | omega | (simp; done) | (simp; omega)) _ | with_reducible refine Below.alloc ?_ (by first | omega | (simp; done) | (simp; omega)) _ | with_reducible refine Below.drew ?_ | with_reducible refine Ext.on _ ?_ (by first | omega | (simp; done) | (simp; omega)))); rintro e _ ⟨g', s', t', rfl, hs', ht', ⟨y, rfl⟩⟩; have ys := y.size; (try simp at ys)) | (go_at_call 59; have G := Lib.hid (lsign_calls g' s'.a s'.len s'.cap _ _ hs'.1); (with_reducible refine Calls.mono G.out ?_); rintro e _ ⟨rfl, ⟨y2, rfl⟩⟩))
  go_ret
  refine ⟨ret_int (ER.out g' _ hs'.2 rfl), Cls.of ?_⟩
  repeat first | with_reducible exact Below.refl _ _ | with_reducible refine Below.setCell ?_ (by first | omega | (simp; done) | (simp; omega)) _ | with_reducible refine Below.alloc ?_ (by first | omega | (simp; done) | (simp; omega)) _ | with_reducible refine Below.drew ?_ | with_reducible refine Ext.on _ ?_ (by first | omega | (simp; done) | (simp; omega))
end Go.Proofs.Ytilhhbjdcdediaa
