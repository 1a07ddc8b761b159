/-
  The program's right.
-/
import Derived.Test.YtilhhbjdcdediaaL02
set_option linter.unusedVariables false
namespace Go.Proofs.Ytilhhbjdcdediaa
open Go Go.RowKit Go.Deep
theorem three_at (w : World) (o1 o2 o3 : Obj) : (((w.alloc o1).alloc o2).alloc o3).heap[w.heap.size]? = some o1 ∧ (((w.alloc o1).alloc o2).alloc o3).heap[w.heap.size + 1]? = some o2 ∧ (((w.alloc o1).alloc o2).alloc o3).heap[w.heap.size + 1 + 1]? = some o3 := by
  refine ⟨?_, ?_, ?_⟩
  · rw [Below.heap_alloc _ _ _ (by simp; omega), Below.heap_alloc _ _ _ (by simp)]; exact heap_alloc_new w o1
  · rw [Below.heap_alloc _ _ _ (by simp)]
    have := heap_alloc_new (w.alloc o1) o2
    simpa using this
  · have := heap_alloc_new ((w.alloc o1).alloc o2) o3
    simpa using this
set_option maxHeartbeats 32000000 in
set_option maxRecDepth 20000 in
theorem iRight_calls : ∀ (n : Nat) (p : Pf) (y : Sy) (la : Option Addr) (lc : Nat) (lo : Nat → Int) (pa : Option Addr) (pc : Nat) (up : Nat → Int) (d : Int) (w : World), SmallP n p → PfA w p → SysA w y → IntsA w ⟨la, y.U.len, lc⟩ lo → IntsA w ⟨pa, y.U.len, pc⟩ up → y.U.len ≤ 15 → 0 ≤ d → d + n ≤ 200 →
    Calls Try.prog 48 #[y.v, .agg #[.slice la y.U.len lc, .slice pa y.U.len pc, .int .i64 d], p.val] w fun e w' => e = .returned (.bool (rtP y p lo up)) ∧ Cls w w' := by
  intro n
  induction n with
  | zero => intro p y la lc lo pa pc up d w hs; exact hs.elim
  | succ n ih =>
  intro p y la lc lo pa pc up d w hs h hy hl hp hun hd0 hdn
  have hi := h.frs.2
  have hfr := h.frs.1
  have C1 := Lib.hid (fun (W : World) (hb : Below w.heap.size w W) => lCheckBounds_calls y la y.U.len lc lo pa y.U.len pc up p.mu.a p.mu.len p.mu.cap p.mn p.md W (hy.later hb) (hl.later hb) (hp.later hb) (hfr.later hb) hi (by have := hs.2.1; omega) (by omega))
  have C2 := Lib.hid (fun (W : World) (hb : Below w.heap.size w W) => lLattice_calls y p.mu.a p.mu.len p.mu.cap p.mn p.md W (hy.later hb) (hfr.later hb) hi (by have := hs.2.1; omega))
  have CLF := Lib.hid (fun (W : World) => isLeaf_calls p la y.U.len lc pa y.U.len pc d W h.lens.2 (by omega))
  have CSP := Lib.hid (fun (W : World) => isSplit_calls p y W h.lens.2 ⟨hfr.1, hfr.2.1⟩ ⟨hy.U.1, hy.U.2.1⟩)
  have hsm := hs.2.2
  have IH := Lib.hid ih
  have HY := Lib.hid hy
  have HLO := Lib.hid hl
  have HPO := Lib.hid hp
  have hlm := hl.2.1
  have hpm := hp.2.1
  have hll := hl.1
  have hpl := hp.1
  have um := hy.U.2.1
  have ul := hy.U.1
  unfold maxLen at hlm hpm um
  simp only at hlm hpm hll hpl
  clear ih hs hi hfr
  obtain ⟨pk, mu, mn, md, pv, pb, ks, l⟩ := p
  obtain ⟨ma, mlen, mcap⟩ := mu
  obtain ⟨ka, klen, kcap⟩ := ks
  have hl := h.lens
  have hf := h.frs.1
  have hce := h.cells
  simp only [Pf.mu, Pf.mn, Pf.md, Pf.ks, Pf.kids] at hl hf hce
  obtain ⟨hl1, hl2, hl3⟩ := hl
  have hf1 := hf.1
  have hf2 := hf.2.1
  simp only at hf1 hf2 hl1 hl2 hl3 hce
  unfold maxLen at hf2 hl3
  have HKD : Hid (∀ i, i < klen → PfA w (l.getD i Pf.z)) := Lib.hid fun i hi => h.kid hi
  have HCE := Lib.hid hce
  have HME : Hid (∀ i, i < klen → l.getD i Pf.z ∈ l) := Lib.hid fun i hi => pf_mem (by omega)
  simp only [Pf.val, Pf.kind, Pf.mu, Pf.v, Pf.bd, Pf.ks]
  clear hce hf
  simp only [Pf.val, Pf.kind, Pf.mu, Pf.mn, Pf.md, Pf.v, Pf.bd, Pf.ks, Pf.kids] at C1 C2 hsm CLF CSP
  have HSM := Lib.hid hsm
  have HSP : Hid (∀ un, splitB un (.mk pk ⟨ma, mlen, mcap⟩ mn md pv pb ⟨ka, klen, kcap⟩ l) = (decide (0 ≤ pv ∧ pv < un) && (decide (0 ≤ pb ∧ pb ≤ 1000000000) && (decide (mlen = 0) && decide (klen = 2))))) := Lib.hid fun _ => rfl
  rw [rtP]
  clear h hy hl hp hsm
  generalize hPF : Pf.mk pk ⟨ma, mlen, mcap⟩ mn md pv pb ⟨ka, klen, kcap⟩ l = PF at *
  clear hPF
  generalize hcb : cbB y mlen mn md y.U.len lo y.U.len up = cb at *
  generalize hlb : laB y mlen mn md = lb at *
  clear hcb hlb
  by_cases kk1 : pk = 1
  case pos =>
    rw [if_pos kk1]
    subst kk1
    clear C2 CSP IH HSM HKD HCE HME HSP
    unfold Sy.v at *
    generalize y.U.a = ua at *
    generalize y.U.len = un at *
    generalize y.U.cap = uc at *
    generalize y.R.a = ra at *
    generalize y.R.len = rn at *
    generalize y.R.cap = rc at *
    generalize y.B.a = ba at *
    generalize y.B.len = bn at *
    generalize y.B.cap = bc at *
    cases hlf : leafB PF
    case false =>
      rw [hlf] at CLF
      clear hlf
      go_enter Try.func48, Try.ntmps48
      go_wp2_with (go_at_call 78; (with_reducible refine Calls.mono (CLF.out _) ?_); rintro e _ ⟨rfl, ⟨x, rfl⟩⟩; have xs := x.size; (try simp at xs); obtain ⟨q0, q1, q2⟩ := three_at w (.cells #[.slice ua un uc, .slice ra rn rc, .slice ba bn bc] 30) (.cells #[.slice la un lc, .slice pa un pc, .int .i64 d] 88) (.cells #[.int .i64 1, .slice ma mlen mcap, .int .i64 pv, .int .i64 pb, .slice ka klen kcap] 48); obtain ⟨hx0, c0, c1, c2⟩ := three_s ((x.below.block _ (by simp; omega)).trans q0); obtain ⟨hxb, b0, b1, b2⟩ := three_s ((x.below.block _ (by simp)).trans q1); obtain ⟨hx1, p0, p1, p2, p3, p4⟩ := five_s ((x.below.block _ (by simp)).trans q2); clear q0 q1 q2)
      go_ret
      refine ⟨ret_bool (by simp), Cls.of ?_⟩
      repeat first | with_reducible exact Below.refl _ _ | with_reducible refine Below.setCell ?_ (by first | omega | (simp; done) | (simp; omega)) _ | with_reducible refine Below.alloc ?_ (by first | omega | (simp; done) | (simp; omega)) _ | with_reducible refine Below.drew ?_ | with_reducible refine Ext.on _ ?_ (by first | omega | (simp; done) | (simp; omega))
    case true =>
      rw [hlf] at CLF
      rw [Bool.true_and]
      clear hlf
      go_enter Try.func48, Try.ntmps48
      go_wp2_with (first
        | (go_at_call 78; (with_reducible refine Calls.mono (CLF.out _) ?_); rintro e _ ⟨rfl, ⟨x, rfl⟩⟩; have xs := x.size; (try simp at xs); obtain ⟨q0, q1, q2⟩ := three_at w (.cells #[.slice ua un uc, .slice ra rn rc, .slice ba bn bc] 30) (.cells #[.slice la un lc, .slice pa un pc, .int .i64 d] 88) (.cells #[.int .i64 1, .slice ma mlen mcap, .int .i64 pv, .int .i64 pb, .slice ka klen kcap] 48); obtain ⟨hx0, c0, c1, c2⟩ := three_s ((x.below.block _ (by simp; omega)).trans q0); obtain ⟨hxb, b0, b1, b2⟩ := three_s ((x.below.block _ (by simp)).trans q1); obtain ⟨hx1, p0, p1, p2, p3, p4⟩ := five_s ((x.below.block _ (by simp)).trans q2); clear q0 q1 q2)
        | (go_at_call 14; (with_reducible refine Calls.mono (C1.out _ ?_) ?_); (focus (repeat first | with_reducible exact Below.refl _ _ | with_reducible refine Below.setCell ?_ (by first | omega | (simp; done) | (simp; omega)) _ | with_reducible refine Below.alloc ?_ (by first | omega | (simp; done) | (simp; omega)) _ | with_reducible refine Below.drew ?_ | with_reducible refine Ext.on _ ?_ (by first | omega | (simp; done) | (simp; omega)))); rintro e _ ⟨rfl, ⟨x2, rfl⟩⟩; have x2s := x2.size))
      go_ret
      refine ⟨rfl, Cls.of ?_⟩
      repeat first | with_reducible exact Below.refl _ _ | with_reducible refine Below.setCell ?_ (by first | omega | (simp; done) | (simp; omega)) _ | with_reducible refine Below.alloc ?_ (by first | omega | (simp; done) | (simp; omega)) _ | with_reducible refine Below.drew ?_ | with_reducible refine Ext.on _ ?_ (by first | omega | (simp; done) | (simp; omega))
  rw [if_neg kk1]
  have e1 : (pk == 1) = false := by simpa using kk1
  by_cases kk2 : pk = 2
  case pos =>
    rw [if_pos kk2]
    subst kk2
    clear C1 CSP IH HSM HKD HCE HME HSP
    unfold Sy.v at *
    generalize y.U.a = ua at *
    generalize y.U.len = un at *
    generalize y.U.cap = uc at *
    generalize y.R.a = ra at *
    generalize y.R.len = rn at *
    generalize y.R.cap = rc at *
    generalize y.B.a = ba at *
    generalize y.B.len = bn at *
    generalize y.B.cap = bc at *
    cases hlf : leafB PF
    case false =>
      rw [hlf] at CLF
      clear hlf
      go_enter Try.func48, Try.ntmps48
      go_wp2_with (go_at_call 78; (with_reducible refine Calls.mono (CLF.out _) ?_); rintro e _ ⟨rfl, ⟨x, rfl⟩⟩; have xs := x.size; (try simp at xs); obtain ⟨q0, q1, q2⟩ := three_at w (.cells #[.slice ua un uc, .slice ra rn rc, .slice ba bn bc] 30) (.cells #[.slice la un lc, .slice pa un pc, .int .i64 d] 88) (.cells #[.int .i64 2, .slice ma mlen mcap, .int .i64 pv, .int .i64 pb, .slice ka klen kcap] 48); obtain ⟨hx0, c0, c1, c2⟩ := three_s ((x.below.block _ (by simp; omega)).trans q0); obtain ⟨hxb, b0, b1, b2⟩ := three_s ((x.below.block _ (by simp)).trans q1); obtain ⟨hx1, p0, p1, p2, p3, p4⟩ := five_s ((x.below.block _ (by simp)).trans q2); clear q0 q1 q2)
      go_ret
      refine ⟨ret_bool (by simp), Cls.of ?_⟩
      repeat first | with_reducible exact Below.refl _ _ | with_reducible refine Below.setCell ?_ (by first | omega | (simp; done) | (simp; omega)) _ | with_reducible refine Below.alloc ?_ (by first | omega | (simp; done) | (simp; omega)) _ | with_reducible refine Below.drew ?_ | with_reducible refine Ext.on _ ?_ (by first | omega | (simp; done) | (simp; omega))
    case true =>
      rw [hlf] at CLF
      rw [Bool.true_and]
      clear hlf
      go_enter Try.func48, Try.ntmps48
      go_wp2_with (first
        | (go_at_call 78; (with_reducible refine Calls.mono (CLF.out _) ?_); rintro e _ ⟨rfl, ⟨x, rfl⟩⟩; have xs := x.size; (try simp at xs); obtain ⟨q0, q1, q2⟩ := three_at w (.cells #[.slice ua un uc, .slice ra rn rc, .slice ba bn bc] 30) (.cells #[.slice la un lc, .slice pa un pc, .int .i64 d] 88) (.cells #[.int .i64 2, .slice ma mlen mcap, .int .i64 pv, .int .i64 pb, .slice ka klen kcap] 48); obtain ⟨hx0, c0, c1, c2⟩ := three_s ((x.below.block _ (by simp; omega)).trans q0); obtain ⟨hxb, b0, b1, b2⟩ := three_s ((x.below.block _ (by simp)).trans q1); obtain ⟨hx1, p0, p1, p2, p3, p4⟩ := five_s ((x.below.block _ (by simp)).trans q2); clear q0 q1 q2)
        | (go_at_call 12; (with_reducible refine Calls.mono (C2.out _ ?_) ?_); (focus (repeat first | with_reducible exact Below.refl _ _ | with_reducible refine Below.setCell ?_ (by first | omega | (simp; done) | (simp; omega)) _ | with_reducible refine Below.alloc ?_ (by first | omega | (simp; done) | (simp; omega)) _ | with_reducible refine Below.drew ?_ | with_reducible refine Ext.on _ ?_ (by first | omega | (simp; done) | (simp; omega)))); rintro e _ ⟨rfl, ⟨x2, rfl⟩⟩; have x2s := x2.size))
      go_ret
      refine ⟨rfl, Cls.of ?_⟩
      repeat first | with_reducible exact Below.refl _ _ | with_reducible refine Below.setCell ?_ (by first | omega | (simp; done) | (simp; omega)) _ | with_reducible refine Below.alloc ?_ (by first | omega | (simp; done) | (simp; omega)) _ | with_reducible refine Below.drew ?_ | with_reducible refine Ext.on _ ?_ (by first | omega | (simp; done) | (simp; omega))
  rw [if_neg kk2]
  have e2 : (pk == 2) = false := by simpa using kk2
  by_cases kk3 : pk = 3
  case neg =>
    rw [if_neg kk3]
    have e3 : (pk == 3) = false := by simpa using kk3
    clear C1 C2 CSP CLF IH HSM HKD HCE HME HSP
    unfold Sy.v at *
    generalize y.U.a = ua at *
    generalize y.U.len = un at *
    generalize y.U.cap = uc at *
    generalize y.R.a = ra at *
    generalize y.R.len = rn at *
    generalize y.R.cap = rc at *
    generalize y.B.a = ba at *
    generalize y.B.len = bn at *
    generalize y.B.cap = bc at *
    go_enter Try.func48, Try.ntmps48
    go_wp2_with fail
    go_ret
    refine ⟨rfl, Cls.of ?_⟩
    repeat first | with_reducible exact Below.refl _ _ | with_reducible refine Below.setCell ?_ (by first | omega | (simp; done) | (simp; omega)) _ | with_reducible refine Below.alloc ?_ (by first | omega | (simp; done) | (simp; omega)) _ | with_reducible refine Below.drew ?_ | with_reducible refine Ext.on _ ?_ (by first | omega | (simp; done) | (simp; omega))
  rw [if_pos kk3]
  subst kk3
  clear C1 C2 CLF e1 e2 kk1 kk2
  have HSP := Lib.hid (HSP.out y.U.len)
  have CK : Hid (∀ (i : Nat) (hi : i < klen) (ga gb : Option Addr) (gc hc : Nat) (f g : Nat → Int) (W : World), Below w.heap.size w W → IntsA W ⟨ga, y.U.len, gc⟩ f → IntsA W ⟨gb, y.U.len, hc⟩ g → Calls Try.prog 48 #[y.v, .agg #[.slice ga y.U.len gc, .slice gb y.U.len hc, .int .i64 (d + 1)], (l.getD i Pf.z).val] W fun e w' => e = .returned (.bool (rtP y (l.getD i Pf.z) f g)) ∧ Cls W w') := Lib.hid fun i hi ga gb gc hc f g W hb h1 h2 => IH.out (l.getD i Pf.z) y ga gc f gb hc g (d + 1) W (HSM.out i hi) ((HKD.out i hi).later hb) (HY.out.later hb) h1 h2 hun (by omega) (by omega)
  clear IH HY HSM
  unfold Sy.v at *
  generalize y.U.a = ua at *
  generalize hunE : y.U.len = un at *
  have HUN := Lib.hid hunE
  clear hunE
  generalize y.U.cap = uc at *
  generalize y.R.a = ra at *
  generalize y.R.len = rn at *
  generalize y.R.cap = rc at *
  generalize y.B.a = ba at *
  generalize y.B.len = bn at *
  generalize y.B.cap = bc at *
  cases hspl : splitB un PF
  case false =>
    rw [hspl] at CSP
    rw [Bool.false_and]
    clear hspl HSP HKD HCE HME CK
    go_enter Try.func48, Try.ntmps48
    go_wp2_with (go_at_call 79; (with_reducible refine Calls.mono (CSP.out _) ?_); rintro e _ ⟨rfl, ⟨x, rfl⟩⟩; have xs := x.size; (try simp at xs))
    go_ret
    refine ⟨rfl, Cls.of ?_⟩
    repeat first | with_reducible exact Below.refl _ _ | with_reducible refine Below.setCell ?_ (by first | omega | (simp; done) | (simp; omega)) _ | with_reducible refine Below.alloc ?_ (by first | omega | (simp; done) | (simp; omega)) _ | with_reducible refine Below.drew ?_ | with_reducible refine Ext.on _ ?_ (by first | omega | (simp; done) | (simp; omega))
  have hsp := hspl
  rw [HSP.out] at hsp
  simp only [Bool.and_eq_true, decide_eq_true_eq] at hsp
  obtain ⟨⟨k3, k4⟩, ⟨k5, k6⟩, k2, k1⟩ := hsp
  rw [hspl] at CSP
  rw [Bool.true_and, rtL_two y l _ _ _ _ (by omega)]
  clear hspl HSP
  obtain ⟨vn, rfl⟩ : ∃ vn : Nat, pv = (vn : Int) := ⟨pv.toNat, by omega⟩
  rw [Int.toNat_natCast]
  have hvn : vn < un := by omega
  subst k1
  subst k2
  obtain ⟨b, off, ha, hlt, hc⟩ := HCE.out.resolve_left (by omega)
  subst ha
  obtain ⟨a0, a1, a2, a3, a4⟩ := hc 0 (by omega)
  obtain ⟨g0, g1, g2, g3, g4⟩ := hc 1 (by omega)
  have HK0 := Lib.hid (CK.out 0 (by omega))
  have HK1 := Lib.hid (CK.out 1 (by omega))
  have CD := Lib.hid (fun (W : World) (hb : Below w.heap.size w W) => divided_calls la un lc lo pa pc up d vn pb W (HLO.out.later hb) (HPO.out.later hb) hun hvn ⟨k5, k6⟩ (by omega))
  clear CK HCE hc HKD HME k3 k4 k5 k6
  unfold Pf.val at HK0 HK1
  generalize (l.getD 0 Pf.z).kind = k0k at *
  generalize (l.getD 0 Pf.z).mu = k0m at *
  generalize (l.getD 0 Pf.z).v = k0v at *
  generalize (l.getD 0 Pf.z).bd = k0b at *
  generalize (l.getD 0 Pf.z).ks = k0s at *
  generalize (l.getD 1 Pf.z).kind = k1k at *
  generalize (l.getD 1 Pf.z).mu = k1m at *
  generalize (l.getD 1 Pf.z).v = k1v at *
  generalize (l.getD 1 Pf.z).bd = k1b at *
  generalize (l.getD 1 Pf.z).ks = k1s at *
  generalize updI up (vn : Int) (min (up vn) pb) = up' at *
  generalize updI lo (vn : Int) (max (lo vn) (pb + 1)) = lo' at *
  obtain ⟨r0, hr0⟩ : ∃ r, rtP y (l.getD 0 Pf.z) lo up' = r := ⟨_, rfl⟩
  obtain ⟨r1, hr1⟩ : ∃ r, rtP y (l.getD 1 Pf.z) lo' up = r := ⟨_, rfl⟩
  rw [hr0, hr1]
  have HR0 := Lib.hid hr0
  have HR01 := Lib.hid hr1
  clear hr0 hr1
  have A0 := Lib.hid (And.intro a0 (And.intro a1 (And.intro a2 (And.intro a3 a4))))
  have G0 := Lib.hid (And.intro g0 (And.intro g1 (And.intro g2 (And.intro g3 g4))))
  clear a0 a1 a2 a3 a4 g0 g1 g2 g3 g4
  go_enter Try.func48, Try.ntmps48
  go_wp2_with (first
    | (go_at_call 79; (with_reducible refine Calls.mono (CSP.out _) ?_); rintro e _ ⟨rfl, ⟨x, rfl⟩⟩; have xs := x.size; (try simp at xs); obtain ⟨q0, q1, q2⟩ := three_at w (.cells #[.slice ua un uc, .slice ra rn rc, .slice ba bn bc] 30) (.cells #[.slice la un lc, .slice pa un pc, .int .i64 d] 88) (.cells #[.int .i64 3, .slice ma 0 mcap, .int .i64 (vn : Int), .int .i64 pb, .slice (some ⟨b, off, none⟩) 2 kcap] 48); have Q0 := Lib.hid ((x.below.block _ (by simp; omega)).trans q0); have Q2 := Lib.hid ((x.below.block _ (by simp)).trans q2); obtain ⟨hxb, b0, b1, b2⟩ := three_s ((x.below.block _ (by simp)).trans q1); obtain ⟨hx1, p0, p1, p2, p3, p4⟩ := five_s Q2.out; clear q0 q1 q2)
    | (go_at_call 80; (with_reducible refine Calls.mono (CD.out _ ?_) ?_); (focus (repeat first | with_reducible exact Below.refl _ _ | with_reducible refine Below.setCell ?_ (by first | omega | (simp; done) | (simp; omega)) _ | with_reducible refine Below.alloc ?_ (by first | omega | (simp; done) | (simp; omega)) _ | with_reducible refine Below.drew ?_ | with_reducible refine Ext.on _ ?_ (by first | omega | (simp; done) | (simp; omega)))); rintro e _ ⟨b1, e1, b2, e2, rfl, ⟨hi1, hi2⟩, ⟨x2, rfl⟩⟩; have x2s := x2.size; have HI1 := Lib.hid hi1; have HI2 := Lib.hid hi2; clear hi1 hi2))
  obtain ⟨D, hD⟩ : ∃ D, x2.val.heap.size = D := ⟨_, rfl⟩
  refine wp_at (fun W => Below w.heap.size w W ∧ W.heap[w.heap.size]? = some (.cells #[.slice ua un uc, .slice ra rn rc, .slice ba bn bc] 30) ∧ W.heap[w.heap.size + 1 + 1]? = some (.cells #[.int .i64 3, .slice ma 0 mcap, .int .i64 (vn : Int), .int .i64 pb, .slice (some ⟨b, off, none⟩) 2 kcap] 48) ∧ W.heap[x2.val.heap.size]? = some (.cells #[.slice la un lc, .slice (some ⟨b2, 0, none⟩) un e2, .int .i64 (d + 1), .slice (some ⟨b1, 0, none⟩) un e1, .slice pa un pc, .int .i64 (d + 1)] 111) ∧ IntsA W ⟨some ⟨b1, 0, none⟩, un, e1⟩ lo' ∧ IntsA W ⟨some ⟨b2, 0, none⟩, un, e2⟩ up') ⟨(by repeat first | with_reducible exact Below.refl _ _ | with_reducible refine Below.setCell ?_ (by first | omega | (simp; done) | (simp; omega)) _ | with_reducible refine Below.alloc ?_ (by first | omega | (simp; done) | (simp; omega)) _ | with_reducible refine Below.drew ?_ | with_reducible refine Ext.on _ ?_ (by first | omega | (simp; done) | (simp; omega))), (Below.heap_alloc _ _ _ (by omega)).trans ((x2.below.block _ (by omega)).trans Q0.out), (Below.heap_alloc _ _ _ (by omega)).trans ((x2.below.block _ (by omega)).trans Q2.out), heap_alloc_new _ _, HI1.out.later ((Below.refl _ _).alloc (Nat.le_refl _) _), HI2.out.later ((Below.refl _ _).alloc (Nat.le_refl _) _)⟩ ?_
  rw [hD]
  clear Q0 Q2 HI1 HI2 x2s xs hxb b0 hx1 p0 p1 p2 p3 p4 hD CD CSP
  rintro W7 ⟨hB7, hs5, hf5, hd5, hi1, hi2⟩
  have HB7 := Lib.hid hB7
  have hB5s := hB7.size
  obtain ⟨hx0, c0, c1, c2⟩ := three_s hs5
  obtain ⟨hx1, p0, p1, p2, p3, p4⟩ := five_s hf5
  obtain ⟨hDl, _, m0, m1, m2, m3, m4, m5⟩ := six_n hd5
  obtain ⟨a0, a1, a2, a3, a4⟩ := A0.out
  obtain ⟨g0, g1, g2, g3, g4⟩ := G0.out
  have hbw : b < W7.heap.size := by omega
  have s0 := (hB7.cell (p := ⟨b, off + 0 * 5, none⟩) hlt).trans a0
  have s1 := (hB7.cell (p := ⟨b, off + 0 * 5 + 1, none⟩) hlt).trans a1
  have s2 := (hB7.cell (p := ⟨b, off + 0 * 5 + 2, none⟩) hlt).trans a2
  have s3 := (hB7.cell (p := ⟨b, off + 0 * 5 + 3, none⟩) hlt).trans a3
  have s4 := (hB7.cell (p := ⟨b, off + 0 * 5 + 4, none⟩) hlt).trans a4
  have t0 := (hB7.cell (p := ⟨b, off + 1 * 5, none⟩) hlt).trans g0
  have t1 := (hB7.cell (p := ⟨b, off + 1 * 5 + 1, none⟩) hlt).trans g1
  have t2 := (hB7.cell (p := ⟨b, off + 1 * 5 + 2, none⟩) hlt).trans g2
  have t3 := (hB7.cell (p := ⟨b, off + 1 * 5 + 3, none⟩) hlt).trans g3
  have t4 := (hB7.cell (p := ⟨b, off + 1 * 5 + 4, none⟩) hlt).trans g4
  rw [Nat.zero_mul, Nat.add_zero] at s0 s1 s2 s3 s4
  rw [Nat.one_mul] at t0 t1 t2 t3 t4
  have CR0 := Lib.hid (fun (W : World) (hb : Below W7.heap.size W7 W) => HK0.out la (some ⟨b2, 0, none⟩) lc e2 lo up' W (hB7.trans (hb.mono hB5s)) ((HLO.out.later hB7).later hb) (hi2.later hb))
  have CR1 := Lib.hid (fun (W : World) (hb : Below W7.heap.size W7 W) => HK1.out (some ⟨b1, 0, none⟩) pa e1 pc lo' up W (hB7.trans (hb.mono hB5s)) (hi1.later hb) ((HPO.out.later hB7).later hb))
  rw [HR0.out] at CR0
  rw [HR01.out] at CR1
  clear HR0 HR01 hB7 hs5 hf5 hd5 hi1 hi2 HK0 HK1 A0 G0 a0 a1 a2 a3 a4 g0 g1 g2 g3 g4 HLO HPO
  cases r0
  case true =>
    refine wp_region_inv (x := (⟨W7, Below.refl _ _⟩ : Ext W7)) (fun j u W => match j with
      | 0 => u = .agg #[.slice ua un uc, .slice ra rn rc, .slice ba bn bc]
      | 1 => u = .pointer (some ⟨D, 0, none⟩)
      | 2 => u = .agg #[.slice la un lc, .slice (some ⟨b2, 0, none⟩) un e2, .int .i64 (d + 1)]
      | 3 => u = .pointer (some ⟨w.heap.size + 1 + 1, 4, none⟩)
      | 4 => u = .slice (some ⟨b, off, none⟩) 2 kcap
      | 5 => u = .pointer (some ⟨b, off, none⟩)
      | 6 => u = .agg #[.int .i64 k0k, .slice k0m.a k0m.len k0m.cap, .int .i64 k0v, .int .i64 k0b, .slice k0s.a k0s.len k0s.cap]
      | 7 => u = .bool true
      | 8 => u = .bool true
      | 9 => u = .agg #[.slice ua un uc, .slice ra rn rc, .slice ba bn bc]
      | 10 => u = .pointer (some ⟨D, 3, none⟩)
      | 11 => u = .agg #[.slice (some ⟨b1, 0, none⟩) un e1, .slice pa un pc, .int .i64 (d + 1)]
      | 12 => u = .pointer (some ⟨w.heap.size + 1 + 1, 4, none⟩)
      | 13 => u = .slice (some ⟨b, off, none⟩) 2 kcap
      | 14 => u = .pointer (some ⟨b, off + 5, none⟩)
      | 15 => u = .agg #[.int .i64 k1k, .slice k1m.a k1m.len k1m.cap, .int .i64 k1v, .int .i64 k1b, .slice k1s.a k1s.len k1s.cap]
      | 16 => u = .bool r1
      | 17 => u = .bool r1
      | 18 => u = .bool r1
      | _ => True) 66 (by kernel_rfl) rfl (by kernel_rfl) (fun j u W1 W2 hcc => by
      match j with
      | 0 => exact id
      | 1 => exact id
      | 2 => exact id
      | 3 => exact id
      | 4 => exact id
      | 5 => exact id
      | 6 => exact id
      | 7 => exact id
      | 8 => exact id
      | 9 => exact id
      | 10 => exact id
      | 11 => exact id
      | 12 => exact id
      | 13 => exact id
      | 14 => exact id
      | 15 => exact id
      | 16 => exact id
      | 17 => exact id
      | 18 => exact id
      | _ + 19 => exact id) ?_
    refine inv_step (fun W hW hd K hK => ?_) (fun v0 aq hq => ?_)
    · obtain ⟨y, rfl⟩ := hW
      have ys := y.size
      have HK := Lib.hid hK
      clear hd hK
      go_wp2_with fail
      exact HK.out _ _ rfl ⟨⟨y, rfl⟩, ⟨⟨y.val, Below.refl _ _⟩, rfl⟩⟩ rfl trivial
    simp only [Act.put, List.setIfInBounds_toArray, List.set_cons_zero, List.set_cons_succ] at hq
    subst hq
    refine inv_step (fun W hW hd K hK => ?_) (fun v1 aq hq => ?_)
    · obtain ⟨y, rfl⟩ := hW
      have ys := y.size
      have HK := Lib.hid hK
      clear hd hK
      go_wp2_with fail
      exact HK.out _ _ rfl ⟨⟨y, rfl⟩, ⟨⟨y.val, Below.refl _ _⟩, rfl⟩⟩ rfl trivial
    simp only [Act.put, List.setIfInBounds_toArray, List.set_cons_zero, List.set_cons_succ] at hq
    subst hq
    refine inv_step (fun W hW hd K hK => ?_) (fun v2 aq hq => ?_)
    · obtain ⟨y, rfl⟩ := hW
      have ys := y.size
      have HK := Lib.hid hK
      obtain rfl : v1 = .pointer (some ⟨D, 0, none⟩) := hd 1 (by kernel_rfl)
      clear hd hK
      go_wp2_with fail
      exact HK.out _ _ rfl ⟨⟨y, rfl⟩, ⟨⟨y.val, Below.refl _ _⟩, rfl⟩⟩ rfl trivial
    simp only [Act.put, List.setIfInBounds_toArray, List.set_cons_zero, List.set_cons_succ] at hq
    subst hq
    refine inv_step (fun W hW hd K hK => ?_) (fun v3 aq hq => ?_)
    · obtain ⟨y, rfl⟩ := hW
      have ys := y.size
      have HK := Lib.hid hK
      clear hd hK
      go_wp2_with fail
      exact HK.out _ _ rfl ⟨⟨y, rfl⟩, ⟨⟨y.val, Below.refl _ _⟩, rfl⟩⟩ rfl trivial
    simp only [Act.put, List.setIfInBounds_toArray, List.set_cons_zero, List.set_cons_succ] at hq
    subst hq
    refine inv_step (fun W hW hd K hK => ?_) (fun v4 aq hq => ?_)
    · obtain ⟨y, rfl⟩ := hW
      have ys := y.size
      have HK := Lib.hid hK
      obtain rfl : v3 = .pointer (some ⟨w.heap.size + 1 + 1, 4, none⟩) := hd 3 (by kernel_rfl)
      clear hd hK
      go_wp2_with fail
      exact HK.out _ _ rfl ⟨⟨y, rfl⟩, ⟨⟨y.val, Below.refl _ _⟩, rfl⟩⟩ rfl trivial
    simp only [Act.put, List.setIfInBounds_toArray, List.set_cons_zero, List.set_cons_succ] at hq
    subst hq
    refine inv_step (fun W hW hd K hK => ?_) (fun v5 aq hq => ?_)
    · obtain ⟨y, rfl⟩ := hW
      have ys := y.size
      have HK := Lib.hid hK
      obtain rfl : v4 = .slice (some ⟨b, off, none⟩) 2 kcap := hd 4 (by kernel_rfl)
      clear hd hK
      go_wp2_with fail
      exact HK.out _ _ rfl ⟨⟨y, rfl⟩, ⟨⟨y.val, Below.refl _ _⟩, rfl⟩⟩ rfl trivial
    simp only [Act.put, List.setIfInBounds_toArray, List.set_cons_zero, List.set_cons_succ] at hq
    subst hq
    refine inv_step (fun W hW hd K hK => ?_) (fun v6 aq hq => ?_)
    · obtain ⟨y, rfl⟩ := hW
      have ys := y.size
      have HK := Lib.hid hK
      obtain rfl : v5 = .pointer (some ⟨b, off, none⟩) := hd 5 (by kernel_rfl)
      clear hd hK
      go_wp2_with fail
      exact HK.out _ _ rfl ⟨⟨y, rfl⟩, ⟨⟨y.val, Below.refl _ _⟩, rfl⟩⟩ rfl trivial
    simp only [Act.put, List.setIfInBounds_toArray, List.set_cons_zero, List.set_cons_succ] at hq
    subst hq
    refine inv_step (fun W hW hd K hK => ?_) (fun v7 aq hq => ?_)
    · obtain ⟨y, rfl⟩ := hW
      have ys := y.size
      have HK := Lib.hid hK
      obtain rfl : v0 = .agg #[.slice ua un uc, .slice ra rn rc, .slice ba bn bc] := hd 0 (by kernel_rfl)
      obtain rfl : v2 = .agg #[.slice la un lc, .slice (some ⟨b2, 0, none⟩) un e2, .int .i64 (d + 1)] := hd 2 (by kernel_rfl)
      obtain rfl : v6 = .agg #[.int .i64 k0k, .slice k0m.a k0m.len k0m.cap, .int .i64 k0v, .int .i64 k0b, .slice k0s.a k0s.len k0s.cap] := hd 6 (by kernel_rfl)
      clear hd hK
      go_wp2_with (go_at_call 48; (with_reducible refine Calls.mono (CR0.out y.val y.below) ?_); rintro e _ ⟨rfl, ⟨z, rfl⟩⟩)
      exact HK.out _ _ rfl ⟨Cls.step y ⟨z, rfl⟩, ⟨z, rfl⟩⟩ rfl trivial
    simp only [Act.put, List.setIfInBounds_toArray, List.set_cons_zero, List.set_cons_succ] at hq
    subst hq
    refine inv_step (fun W hW hd K hK => ?_) (fun v8 aq hq => ?_)
    · obtain ⟨y, rfl⟩ := hW
      have ys := y.size
      have HK := Lib.hid hK
      obtain rfl : v7 = .bool true := hd 7 (by kernel_rfl)
      clear hd hK
      go_wp2_with fail
      exact HK.out _ _ rfl ⟨⟨y, rfl⟩, ⟨⟨y.val, Below.refl _ _⟩, rfl⟩⟩ rfl trivial
    simp only [Act.put, List.setIfInBounds_toArray, List.set_cons_zero, List.set_cons_succ] at hq
    subst hq
    refine inv_step (fun W hW hd K hK => ?_) (fun v9 aq hq => ?_)
    · obtain ⟨y, rfl⟩ := hW
      have ys := y.size
      have HK := Lib.hid hK
      obtain rfl : v8 = .bool true := hd 8 (by kernel_rfl)
      clear hd hK
      go_wp2_with fail
      exact HK.out _ _ rfl ⟨⟨y, rfl⟩, ⟨⟨y.val, Below.refl _ _⟩, rfl⟩⟩ rfl trivial
    simp only [Act.put, List.setIfInBounds_toArray, List.set_cons_zero, List.set_cons_succ] at hq
    subst hq
    refine inv_step (fun W hW hd K hK => ?_) (fun v10 aq hq => ?_)
    · obtain ⟨y, rfl⟩ := hW
      have ys := y.size
      have HK := Lib.hid hK
      obtain rfl : v8 = .bool true := hd 8 (by kernel_rfl)
      clear hd hK
      go_wp2_with fail
      exact HK.out _ _ rfl ⟨⟨y, rfl⟩, ⟨⟨y.val, Below.refl _ _⟩, rfl⟩⟩ rfl trivial
    simp only [Act.put, List.setIfInBounds_toArray, List.set_cons_zero, List.set_cons_succ] at hq
    subst hq
    refine inv_step (fun W hW hd K hK => ?_) (fun v11 aq hq => ?_)
    · obtain ⟨y, rfl⟩ := hW
      have ys := y.size
      have HK := Lib.hid hK
      obtain rfl : v8 = .bool true := hd 8 (by kernel_rfl)
      obtain rfl : v10 = .pointer (some ⟨D, 3, none⟩) := hd 10 (by kernel_rfl)
      clear hd hK
      go_wp2_with fail
      exact HK.out _ _ rfl ⟨⟨y, rfl⟩, ⟨⟨y.val, Below.refl _ _⟩, rfl⟩⟩ rfl trivial
    simp only [Act.put, List.setIfInBounds_toArray, List.set_cons_zero, List.set_cons_succ] at hq
    subst hq
    refine inv_step (fun W hW hd K hK => ?_) (fun v12 aq hq => ?_)
    · obtain ⟨y, rfl⟩ := hW
      have ys := y.size
      have HK := Lib.hid hK
      obtain rfl : v8 = .bool true := hd 8 (by kernel_rfl)
      clear hd hK
      go_wp2_with fail
      exact HK.out _ _ rfl ⟨⟨y, rfl⟩, ⟨⟨y.val, Below.refl _ _⟩, rfl⟩⟩ rfl trivial
    simp only [Act.put, List.setIfInBounds_toArray, List.set_cons_zero, List.set_cons_succ] at hq
    subst hq
    refine inv_step (fun W hW hd K hK => ?_) (fun v13 aq hq => ?_)
    · obtain ⟨y, rfl⟩ := hW
      have ys := y.size
      have HK := Lib.hid hK
      obtain rfl : v8 = .bool true := hd 8 (by kernel_rfl)
      obtain rfl : v12 = .pointer (some ⟨w.heap.size + 1 + 1, 4, none⟩) := hd 12 (by kernel_rfl)
      clear hd hK
      go_wp2_with fail
      exact HK.out _ _ rfl ⟨⟨y, rfl⟩, ⟨⟨y.val, Below.refl _ _⟩, rfl⟩⟩ rfl trivial
    simp only [Act.put, List.setIfInBounds_toArray, List.set_cons_zero, List.set_cons_succ] at hq
    subst hq
    refine inv_step (fun W hW hd K hK => ?_) (fun v14 aq hq => ?_)
    · obtain ⟨y, rfl⟩ := hW
      have ys := y.size
      have HK := Lib.hid hK
      obtain rfl : v8 = .bool true := hd 8 (by kernel_rfl)
      obtain rfl : v13 = .slice (some ⟨b, off, none⟩) 2 kcap := hd 13 (by kernel_rfl)
      clear hd hK
      go_wp2_with fail
      exact HK.out _ _ rfl ⟨⟨y, rfl⟩, ⟨⟨y.val, Below.refl _ _⟩, rfl⟩⟩ rfl trivial
    simp only [Act.put, List.setIfInBounds_toArray, List.set_cons_zero, List.set_cons_succ] at hq
    subst hq
    refine inv_step (fun W hW hd K hK => ?_) (fun v15 aq hq => ?_)
    · obtain ⟨y, rfl⟩ := hW
      have ys := y.size
      have HK := Lib.hid hK
      obtain rfl : v8 = .bool true := hd 8 (by kernel_rfl)
      obtain rfl : v14 = .pointer (some ⟨b, off + 5, none⟩) := hd 14 (by kernel_rfl)
      clear hd hK
      go_wp2_with fail
      exact HK.out _ _ rfl ⟨⟨y, rfl⟩, ⟨⟨y.val, Below.refl _ _⟩, rfl⟩⟩ rfl trivial
    simp only [Act.put, List.setIfInBounds_toArray, List.set_cons_zero, List.set_cons_succ] at hq
    subst hq
    refine inv_step (fun W hW hd K hK => ?_) (fun v16 aq hq => ?_)
    · obtain ⟨y, rfl⟩ := hW
      have ys := y.size
      have HK := Lib.hid hK
      obtain rfl : v8 = .bool true := hd 8 (by kernel_rfl)
      obtain rfl : v9 = .agg #[.slice ua un uc, .slice ra rn rc, .slice ba bn bc] := hd 9 (by kernel_rfl)
      obtain rfl : v11 = .agg #[.slice (some ⟨b1, 0, none⟩) un e1, .slice pa un pc, .int .i64 (d + 1)] := hd 11 (by kernel_rfl)
      obtain rfl : v15 = .agg #[.int .i64 k1k, .slice k1m.a k1m.len k1m.cap, .int .i64 k1v, .int .i64 k1b, .slice k1s.a k1s.len k1s.cap] := hd 15 (by kernel_rfl)
      clear hd hK
      go_wp2_with (go_at_call 48; (with_reducible refine Calls.mono (CR1.out y.val y.below) ?_); rintro e _ ⟨rfl, ⟨z, rfl⟩⟩)
      exact HK.out _ _ rfl ⟨Cls.step y ⟨z, rfl⟩, ⟨z, rfl⟩⟩ rfl trivial
    simp only [Act.put, List.setIfInBounds_toArray, List.set_cons_zero, List.set_cons_succ] at hq
    subst hq
    refine inv_step (fun W hW hd K hK => ?_) (fun v17 aq hq => ?_)
    · obtain ⟨y, rfl⟩ := hW
      have ys := y.size
      have HK := Lib.hid hK
      obtain rfl : v8 = .bool true := hd 8 (by kernel_rfl)
      obtain rfl : v16 = .bool r1 := hd 16 (by kernel_rfl)
      clear hd hK
      go_wp2_with fail
      exact HK.out _ _ rfl ⟨⟨y, rfl⟩, ⟨⟨y.val, Below.refl _ _⟩, rfl⟩⟩ rfl trivial
    simp only [Act.put, List.setIfInBounds_toArray, List.set_cons_zero, List.set_cons_succ] at hq
    subst hq
    refine inv_step (fun W hW hd K hK => ?_) (fun v18 aq hq => ?_)
    · obtain ⟨y, rfl⟩ := hW
      have ys := y.size
      have HK := Lib.hid hK
      obtain rfl : v17 = .bool r1 := hd 17 (by kernel_rfl)
      clear hd hK
      go_wp2_with fail
      exact HK.out _ _ rfl ⟨⟨y, rfl⟩, ⟨⟨y.val, Below.refl _ _⟩, rfl⟩⟩ rfl trivial
    simp only [Act.put, List.setIfInBounds_toArray, List.set_cons_zero, List.set_cons_succ] at hq
    subst hq
    refine inv_nil fun W hW hT hR => ?_
    obtain ⟨y, rfl⟩ := hW
    have ys := y.size
    obtain rfl : v18 = .bool r1 := hT 18 (by decide)
    clear hT hR
    go_wp2_with fail
    go_ret
    exact ⟨ret_bool (by simp), Cls.of (y.on HB7.out (by omega))⟩
  case false =>
    refine wp_region_inv (x := (⟨W7, Below.refl _ _⟩ : Ext W7)) (fun j u W => match j with
      | 0 => u = .agg #[.slice ua un uc, .slice ra rn rc, .slice ba bn bc]
      | 1 => u = .pointer (some ⟨D, 0, none⟩)
      | 2 => u = .agg #[.slice la un lc, .slice (some ⟨b2, 0, none⟩) un e2, .int .i64 (d + 1)]
      | 3 => u = .pointer (some ⟨w.heap.size + 1 + 1, 4, none⟩)
      | 4 => u = .slice (some ⟨b, off, none⟩) 2 kcap
      | 5 => u = .pointer (some ⟨b, off, none⟩)
      | 6 => u = .agg #[.int .i64 k0k, .slice k0m.a k0m.len k0m.cap, .int .i64 k0v, .int .i64 k0b, .slice k0s.a k0s.len k0s.cap]
      | 7 => u = .bool false
      | 8 => u = .bool false
      | 9 => u = undef
      | 10 => u = undef
      | 11 => u = undef
      | 12 => u = undef
      | 13 => u = undef
      | 14 => u = undef
      | 15 => u = undef
      | 16 => u = undef
      | 17 => u = .bool false
      | 18 => u = .bool false
      | _ => True) 66 (by kernel_rfl) rfl (by kernel_rfl) (fun j u W1 W2 hcc => by
      match j with
      | 0 => exact id
      | 1 => exact id
      | 2 => exact id
      | 3 => exact id
      | 4 => exact id
      | 5 => exact id
      | 6 => exact id
      | 7 => exact id
      | 8 => exact id
      | 9 => exact id
      | 10 => exact id
      | 11 => exact id
      | 12 => exact id
      | 13 => exact id
      | 14 => exact id
      | 15 => exact id
      | 16 => exact id
      | 17 => exact id
      | 18 => exact id
      | _ + 19 => exact id) ?_
    refine inv_step (fun W hW hd K hK => ?_) (fun v0 aq hq => ?_)
    · obtain ⟨y, rfl⟩ := hW
      have ys := y.size
      have HK := Lib.hid hK
      clear hd hK
      go_wp2_with fail
      exact HK.out _ _ rfl ⟨⟨y, rfl⟩, ⟨⟨y.val, Below.refl _ _⟩, rfl⟩⟩ rfl trivial
    simp only [Act.put, List.setIfInBounds_toArray, List.set_cons_zero, List.set_cons_succ] at hq
    subst hq
    refine inv_step (fun W hW hd K hK => ?_) (fun v1 aq hq => ?_)
    · obtain ⟨y, rfl⟩ := hW
      have ys := y.size
      have HK := Lib.hid hK
      clear hd hK
      go_wp2_with fail
      exact HK.out _ _ rfl ⟨⟨y, rfl⟩, ⟨⟨y.val, Below.refl _ _⟩, rfl⟩⟩ rfl trivial
    simp only [Act.put, List.setIfInBounds_toArray, List.set_cons_zero, List.set_cons_succ] at hq
    subst hq
    refine inv_step (fun W hW hd K hK => ?_) (fun v2 aq hq => ?_)
    · obtain ⟨y, rfl⟩ := hW
      have ys := y.size
      have HK := Lib.hid hK
      obtain rfl : v1 = .pointer (some ⟨D, 0, none⟩) := hd 1 (by kernel_rfl)
      clear hd hK
      go_wp2_with fail
      exact HK.out _ _ rfl ⟨⟨y, rfl⟩, ⟨⟨y.val, Below.refl _ _⟩, rfl⟩⟩ rfl trivial
    simp only [Act.put, List.setIfInBounds_toArray, List.set_cons_zero, List.set_cons_succ] at hq
    subst hq
    refine inv_step (fun W hW hd K hK => ?_) (fun v3 aq hq => ?_)
    · obtain ⟨y, rfl⟩ := hW
      have ys := y.size
      have HK := Lib.hid hK
      clear hd hK
      go_wp2_with fail
      exact HK.out _ _ rfl ⟨⟨y, rfl⟩, ⟨⟨y.val, Below.refl _ _⟩, rfl⟩⟩ rfl trivial
    simp only [Act.put, List.setIfInBounds_toArray, List.set_cons_zero, List.set_cons_succ] at hq
    subst hq
    refine inv_step (fun W hW hd K hK => ?_) (fun v4 aq hq => ?_)
    · obtain ⟨y, rfl⟩ := hW
      have ys := y.size
      have HK := Lib.hid hK
      obtain rfl : v3 = .pointer (some ⟨w.heap.size + 1 + 1, 4, none⟩) := hd 3 (by kernel_rfl)
      clear hd hK
      go_wp2_with fail
      exact HK.out _ _ rfl ⟨⟨y, rfl⟩, ⟨⟨y.val, Below.refl _ _⟩, rfl⟩⟩ rfl trivial
    simp only [Act.put, List.setIfInBounds_toArray, List.set_cons_zero, List.set_cons_succ] at hq
    subst hq
    refine inv_step (fun W hW hd K hK => ?_) (fun v5 aq hq => ?_)
    · obtain ⟨y, rfl⟩ := hW
      have ys := y.size
      have HK := Lib.hid hK
      obtain rfl : v4 = .slice (some ⟨b, off, none⟩) 2 kcap := hd 4 (by kernel_rfl)
      clear hd hK
      go_wp2_with fail
      exact HK.out _ _ rfl ⟨⟨y, rfl⟩, ⟨⟨y.val, Below.refl _ _⟩, rfl⟩⟩ rfl trivial
    simp only [Act.put, List.setIfInBounds_toArray, List.set_cons_zero, List.set_cons_succ] at hq
    subst hq
    refine inv_step (fun W hW hd K hK => ?_) (fun v6 aq hq => ?_)
    · obtain ⟨y, rfl⟩ := hW
      have ys := y.size
      have HK := Lib.hid hK
      obtain rfl : v5 = .pointer (some ⟨b, off, none⟩) := hd 5 (by kernel_rfl)
      clear hd hK
      go_wp2_with fail
      exact HK.out _ _ rfl ⟨⟨y, rfl⟩, ⟨⟨y.val, Below.refl _ _⟩, rfl⟩⟩ rfl trivial
    simp only [Act.put, List.setIfInBounds_toArray, List.set_cons_zero, List.set_cons_succ] at hq
    subst hq
    refine inv_step (fun W hW hd K hK => ?_) (fun v7 aq hq => ?_)
    · obtain ⟨y, rfl⟩ := hW
      have ys := y.size
      have HK := Lib.hid hK
      obtain rfl : v0 = .agg #[.slice ua un uc, .slice ra rn rc, .slice ba bn bc] := hd 0 (by kernel_rfl)
      obtain rfl : v2 = .agg #[.slice la un lc, .slice (some ⟨b2, 0, none⟩) un e2, .int .i64 (d + 1)] := hd 2 (by kernel_rfl)
      obtain rfl : v6 = .agg #[.int .i64 k0k, .slice k0m.a k0m.len k0m.cap, .int .i64 k0v, .int .i64 k0b, .slice k0s.a k0s.len k0s.cap] := hd 6 (by kernel_rfl)
      clear hd hK
      go_wp2_with (go_at_call 48; (with_reducible refine Calls.mono (CR0.out y.val y.below) ?_); rintro e _ ⟨rfl, ⟨z, rfl⟩⟩)
      exact HK.out _ _ rfl ⟨Cls.step y ⟨z, rfl⟩, ⟨z, rfl⟩⟩ rfl trivial
    simp only [Act.put, List.setIfInBounds_toArray, List.set_cons_zero, List.set_cons_succ] at hq
    subst hq
    refine inv_step (fun W hW hd K hK => ?_) (fun v8 aq hq => ?_)
    · obtain ⟨y, rfl⟩ := hW
      have ys := y.size
      have HK := Lib.hid hK
      obtain rfl : v7 = .bool false := hd 7 (by kernel_rfl)
      clear hd hK
      go_wp2_with fail
      exact HK.out _ _ rfl ⟨⟨y, rfl⟩, ⟨⟨y.val, Below.refl _ _⟩, rfl⟩⟩ rfl trivial
    simp only [Act.put, List.setIfInBounds_toArray, List.set_cons_zero, List.set_cons_succ] at hq
    subst hq
    refine inv_step (fun W hW hd K hK => ?_) (fun v9 aq hq => ?_)
    · obtain ⟨y, rfl⟩ := hW
      have ys := y.size
      have HK := Lib.hid hK
      obtain rfl : v8 = .bool false := hd 8 (by kernel_rfl)
      clear hd hK
      go_wp2_with fail
      exact HK.out _ _ rfl ⟨⟨y, rfl⟩, ⟨⟨y.val, Below.refl _ _⟩, rfl⟩⟩ rfl trivial
    simp only [Act.put, List.setIfInBounds_toArray, List.set_cons_zero, List.set_cons_succ] at hq
    subst hq
    refine inv_step (fun W hW hd K hK => ?_) (fun v10 aq hq => ?_)
    · obtain ⟨y, rfl⟩ := hW
      have ys := y.size
      have HK := Lib.hid hK
      obtain rfl : v8 = .bool false := hd 8 (by kernel_rfl)
      clear hd hK
      go_wp2_with fail
      exact HK.out _ _ rfl ⟨⟨y, rfl⟩, ⟨⟨y.val, Below.refl _ _⟩, rfl⟩⟩ rfl trivial
    simp only [Act.put, List.setIfInBounds_toArray, List.set_cons_zero, List.set_cons_succ] at hq
    subst hq
    refine inv_step (fun W hW hd K hK => ?_) (fun v11 aq hq => ?_)
    · obtain ⟨y, rfl⟩ := hW
      have ys := y.size
      have HK := Lib.hid hK
      obtain rfl : v8 = .bool false := hd 8 (by kernel_rfl)
      clear hd hK
      go_wp2_with fail
      exact HK.out _ _ rfl ⟨⟨y, rfl⟩, ⟨⟨y.val, Below.refl _ _⟩, rfl⟩⟩ rfl trivial
    simp only [Act.put, List.setIfInBounds_toArray, List.set_cons_zero, List.set_cons_succ] at hq
    subst hq
    refine inv_step (fun W hW hd K hK => ?_) (fun v12 aq hq => ?_)
    · obtain ⟨y, rfl⟩ := hW
      have ys := y.size
      have HK := Lib.hid hK
      obtain rfl : v8 = .bool false := hd 8 (by kernel_rfl)
      clear hd hK
      go_wp2_with fail
      exact HK.out _ _ rfl ⟨⟨y, rfl⟩, ⟨⟨y.val, Below.refl _ _⟩, rfl⟩⟩ rfl trivial
    simp only [Act.put, List.setIfInBounds_toArray, List.set_cons_zero, List.set_cons_succ] at hq
    subst hq
    refine inv_step (fun W hW hd K hK => ?_) (fun v13 aq hq => ?_)
    · obtain ⟨y, rfl⟩ := hW
      have ys := y.size
      have HK := Lib.hid hK
      obtain rfl : v8 = .bool false := hd 8 (by kernel_rfl)
      clear hd hK
      go_wp2_with fail
      exact HK.out _ _ rfl ⟨⟨y, rfl⟩, ⟨⟨y.val, Below.refl _ _⟩, rfl⟩⟩ rfl trivial
    simp only [Act.put, List.setIfInBounds_toArray, List.set_cons_zero, List.set_cons_succ] at hq
    subst hq
    refine inv_step (fun W hW hd K hK => ?_) (fun v14 aq hq => ?_)
    · obtain ⟨y, rfl⟩ := hW
      have ys := y.size
      have HK := Lib.hid hK
      obtain rfl : v8 = .bool false := hd 8 (by kernel_rfl)
      clear hd hK
      go_wp2_with fail
      exact HK.out _ _ rfl ⟨⟨y, rfl⟩, ⟨⟨y.val, Below.refl _ _⟩, rfl⟩⟩ rfl trivial
    simp only [Act.put, List.setIfInBounds_toArray, List.set_cons_zero, List.set_cons_succ] at hq
    subst hq
    refine inv_step (fun W hW hd K hK => ?_) (fun v15 aq hq => ?_)
    · obtain ⟨y, rfl⟩ := hW
      have ys := y.size
      have HK := Lib.hid hK
      obtain rfl : v8 = .bool false := hd 8 (by kernel_rfl)
      clear hd hK
      go_wp2_with fail
      exact HK.out _ _ rfl ⟨⟨y, rfl⟩, ⟨⟨y.val, Below.refl _ _⟩, rfl⟩⟩ rfl trivial
    simp only [Act.put, List.setIfInBounds_toArray, List.set_cons_zero, List.set_cons_succ] at hq
    subst hq
    refine inv_step (fun W hW hd K hK => ?_) (fun v16 aq hq => ?_)
    · obtain ⟨y, rfl⟩ := hW
      have ys := y.size
      have HK := Lib.hid hK
      obtain rfl : v8 = .bool false := hd 8 (by kernel_rfl)
      clear hd hK
      go_wp2_with fail
      exact HK.out _ _ rfl ⟨⟨y, rfl⟩, ⟨⟨y.val, Below.refl _ _⟩, rfl⟩⟩ rfl trivial
    simp only [Act.put, List.setIfInBounds_toArray, List.set_cons_zero, List.set_cons_succ] at hq
    subst hq
    refine inv_step (fun W hW hd K hK => ?_) (fun v17 aq hq => ?_)
    · obtain ⟨y, rfl⟩ := hW
      have ys := y.size
      have HK := Lib.hid hK
      obtain rfl : v8 = .bool false := hd 8 (by kernel_rfl)
      clear hd hK
      go_wp2_with fail
      exact HK.out _ _ rfl ⟨⟨y, rfl⟩, ⟨⟨y.val, Below.refl _ _⟩, rfl⟩⟩ rfl trivial
    simp only [Act.put, List.setIfInBounds_toArray, List.set_cons_zero, List.set_cons_succ] at hq
    subst hq
    refine inv_step (fun W hW hd K hK => ?_) (fun v18 aq hq => ?_)
    · obtain ⟨y, rfl⟩ := hW
      have ys := y.size
      have HK := Lib.hid hK
      obtain rfl : v17 = .bool false := hd 17 (by kernel_rfl)
      clear hd hK
      go_wp2_with fail
      exact HK.out _ _ rfl ⟨⟨y, rfl⟩, ⟨⟨y.val, Below.refl _ _⟩, rfl⟩⟩ rfl trivial
    simp only [Act.put, List.setIfInBounds_toArray, List.set_cons_zero, List.set_cons_succ] at hq
    subst hq
    refine inv_nil fun W hW hT hR => ?_
    obtain ⟨y, rfl⟩ := hW
    have ys := y.size
    obtain rfl : v18 = .bool false := hT 18 (by decide)
    clear hT hR
    go_wp2_with fail
    go_ret
    exact ⟨ret_bool (by simp), Cls.of (y.on HB7.out (by omega))⟩
end Go.Proofs.Ytilhhbjdcdediaa
