/-
  The reference's right.
-/
import Derived.Test.YtilhhbjdcdediaaL02
set_option linter.unusedVariables false
namespace Go.Proofs.Ytilhhbjdcdediaa
open Go Go.RowKit Go.Deep
set_option maxHeartbeats 32000000 in
set_option maxRecDepth 20000 in
theorem rRight_calls : ∀ (n : Nat) (p : Pf) (y : Sy) (la : Option Addr) (lc : Nat) (lo : Nat → Int) (pa : Option Addr) (pc : Nat) (up : Nat → Int) (w : World), SmallP n p → PfA w p → SysA w y → IntsA w ⟨la, y.U.len, lc⟩ lo → IntsA w ⟨pa, y.U.len, pc⟩ up → y.U.len ≤ 15 →
    Calls Try.prog 52 #[y.v, p.val, .slice la y.U.len lc, .slice pa y.U.len pc] w fun e w' => e = .returned (.bool (rtP y p lo up)) ∧ Cls w w' := by
  intro n
  induction n with
  | zero => intro p y la lc lo pa pc up w hs; exact hs.elim
  | succ n ih =>
  intro p y la lc lo pa pc up w hs h hy hl hp hun
  have hi := h.frs.2
  have hfr := h.frs.1
  have C1 := Lib.hid (fun (W : World) (hb : Below w.heap.size w W) => rCheckBounds_calls y la y.U.len lc lo pa y.U.len pc up p.mu.a p.mu.len p.mu.cap p.mn p.md W (hy.later hb) (hl.later hb) (hp.later hb) (hfr.later hb) hi (by have := hs.2.1; omega) hun)
  have C2 := Lib.hid (fun (W : World) (hb : Below w.heap.size w W) => rLattice_calls y p.mu.a p.mu.len p.mu.cap p.mn p.md W (fun W' hb' => rCombine_calls y p.mu.a p.mu.len p.mu.cap p.mn p.md W' (hy.later (hb.trans (hb'.mono hb.size))) (hfr.later (hb.trans (hb'.mono hb.size))) hi (by have := hs.2.1; omega)))
  have C3 := Lib.hid (fun (W : World) (hb : Below w.heap.size w W) => copied_calls la y.U.len lc lo W (hl.later hb) (by omega))
  have C4 := Lib.hid (fun (W : World) (hb : Below w.heap.size w W) => copied_calls pa y.U.len pc up W (hp.later hb) (by omega))
  have hsm := hs.2.2
  have IH := Lib.hid ih
  have HY := Lib.hid hy
  have HLO := Lib.hid hl
  have HPO := Lib.hid hp
  have hlm := hl.2.1
  have hpm := hp.2.1
  have hll := hl.1
  have hpl := hp.1
  have um := hy.U.2.1
  have ul := hy.U.1
  unfold maxLen at hlm hpm um
  simp only at hlm hpm hll hpl
  clear ih hs hi hfr
  obtain ⟨pk, mu, mn, md, pv, pb, ks, l⟩ := p
  obtain ⟨ma, mlen, mcap⟩ := mu
  obtain ⟨ka, klen, kcap⟩ := ks
  have hl := h.lens
  have hf := h.frs.1
  have hce := h.cells
  simp only [Pf.mu, Pf.mn, Pf.md, Pf.ks, Pf.kids] at hl hf hce
  obtain ⟨hl1, hl2, hl3⟩ := hl
  have hf1 := hf.1
  have hf2 := hf.2.1
  simp only at hf1 hf2 hl1 hl2 hl3 hce
  unfold maxLen at hf2 hl3
  have HKD : Hid (∀ i, i < klen → PfA w (l.getD i Pf.z)) := Lib.hid fun i hi => h.kid hi
  have HCE := Lib.hid hce
  have HME : Hid (∀ i, i < klen → l.getD i Pf.z ∈ l) := Lib.hid fun i hi => pf_mem (by omega)
  simp only [Pf.val, Pf.kind, Pf.mu, Pf.v, Pf.bd, Pf.ks]
  clear hce hf
  simp only [Pf.mu, Pf.mn, Pf.md, Pf.ks, Pf.kids] at C1 C2 hsm
  have HSM := Lib.hid hsm
  have HLF : Hid (leafB (.mk pk ⟨ma, mlen, mcap⟩ mn md pv pb ⟨ka, klen, kcap⟩ l) = (pv == 0 && (pb == 0 && decide (klen = 0)))) := Lib.hid rfl
  have HSP : Hid (∀ un, splitB un (.mk pk ⟨ma, mlen, mcap⟩ mn md pv pb ⟨ka, klen, kcap⟩ l) = (decide (0 ≤ pv ∧ pv < un) && (decide (0 ≤ pb ∧ pb ≤ 1000000000) && (decide (mlen = 0) && decide (klen = 2))))) := Lib.hid fun _ => rfl
  rw [rtP]
  clear h hy hl hp hsm
  generalize hPF : Pf.mk pk ⟨ma, mlen, mcap⟩ mn md pv pb ⟨ka, klen, kcap⟩ l = PF at *
  clear hPF
  generalize hcb : cbB y mlen mn md y.U.len lo y.U.len up = cb at *
  generalize hlb : laB y mlen mn md = lb at *
  clear hcb hlb
  by_cases kk1 : pk = 1
  case pos =>
    rw [if_pos kk1]
    subst kk1
    clear C2 C3 C4 IH HSM
    unfold Sy.v at *
    generalize y.U.a = ua at *
    generalize y.U.len = un at *
    generalize y.U.cap = uc at *
    generalize y.R.a = ra at *
    generalize y.R.len = rn at *
    generalize y.R.cap = rc at *
    generalize y.B.a = ba at *
    generalize y.B.len = bn at *
    generalize y.B.cap = bc at *
    by_cases k1 : klen = 0
    case neg =>
      have d1 : ((klen : Int) == 0) = false := by simp; omega
      rw [show leafB PF = false by rw [HLF.out]; simp [k1]]
      go_enter Try.func52, Try.ntmps52
      go_wp2_with fail
      go_ret
      refine ⟨ret_bool (by simp), Cls.of ?_⟩
      repeat first | with_reducible exact Below.refl _ _ | with_reducible refine Below.setCell ?_ (by first | omega | (simp; done) | (simp; omega)) _ | with_reducible refine Below.alloc ?_ (by first | omega | (simp; done) | (simp; omega)) _ | with_reducible refine Below.drew ?_ | with_reducible refine Ext.on _ ?_ (by first | omega | (simp; done) | (simp; omega))
    by_cases k2 : pv = 0
    case neg =>
      have d2 : (pv == 0) = false := by simpa using k2
      rw [show leafB PF = false by rw [HLF.out]; simp [k2]]
      subst k1
      go_enter Try.func52, Try.ntmps52
      go_wp2_with fail
      go_ret
      refine ⟨ret_bool (by simp), Cls.of ?_⟩
      repeat first | with_reducible exact Below.refl _ _ | with_reducible refine Below.setCell ?_ (by first | omega | (simp; done) | (simp; omega)) _ | with_reducible refine Below.alloc ?_ (by first | omega | (simp; done) | (simp; omega)) _ | with_reducible refine Below.drew ?_ | with_reducible refine Ext.on _ ?_ (by first | omega | (simp; done) | (simp; omega))
    by_cases k3 : pb = 0
    case neg =>
      have d3 : (pb == 0) = false := by simpa using k3
      rw [show leafB PF = false by rw [HLF.out]; simp [k3]]
      subst k1
      subst k2
      go_enter Try.func52, Try.ntmps52
      go_wp2_with fail
      go_ret
      refine ⟨ret_bool (by simp), Cls.of ?_⟩
      repeat first | with_reducible exact Below.refl _ _ | with_reducible refine Below.setCell ?_ (by first | omega | (simp; done) | (simp; omega)) _ | with_reducible refine Below.alloc ?_ (by first | omega | (simp; done) | (simp; omega)) _ | with_reducible refine Below.drew ?_ | with_reducible refine Ext.on _ ?_ (by first | omega | (simp; done) | (simp; omega))
    rw [show leafB PF = true by rw [HLF.out]; simp [k1, k2, k3], Bool.true_and]
    clear HLF HSP HKD HCE HME
    subst k1
    subst k2
    subst k3
    go_enter Try.func52, Try.ntmps52
    go_wp2_with (go_at_call 15; (with_reducible refine Calls.mono (C1.out _ ?_) ?_); (focus (repeat first | with_reducible exact Below.refl _ _ | with_reducible refine Below.setCell ?_ (by first | omega | (simp; done) | (simp; omega)) _ | with_reducible refine Below.alloc ?_ (by first | omega | (simp; done) | (simp; omega)) _ | with_reducible refine Below.drew ?_ | with_reducible refine Ext.on _ ?_ (by first | omega | (simp; done) | (simp; omega)))); rintro e _ ⟨rfl, ⟨x, rfl⟩⟩)
    go_ret
    refine ⟨rfl, Cls.of ?_⟩
    repeat first | with_reducible exact Below.refl _ _ | with_reducible refine Below.setCell ?_ (by first | omega | (simp; done) | (simp; omega)) _ | with_reducible refine Below.alloc ?_ (by first | omega | (simp; done) | (simp; omega)) _ | with_reducible refine Below.drew ?_ | with_reducible refine Ext.on _ ?_ (by first | omega | (simp; done) | (simp; omega))
  rw [if_neg kk1]
  have e1 : (pk == 1) = false := by simpa using kk1
  by_cases kk2 : pk = 2
  case pos =>
    rw [if_pos kk2]
    subst kk2
    clear C1 C3 C4 IH HSM
    unfold Sy.v at *
    generalize y.U.a = ua at *
    generalize y.U.len = un at *
    generalize y.U.cap = uc at *
    generalize y.R.a = ra at *
    generalize y.R.len = rn at *
    generalize y.R.cap = rc at *
    generalize y.B.a = ba at *
    generalize y.B.len = bn at *
    generalize y.B.cap = bc at *
    by_cases k1 : klen = 0
    case neg =>
      have d1 : ((klen : Int) == 0) = false := by simp; omega
      rw [show leafB PF = false by rw [HLF.out]; simp [k1]]
      go_enter Try.func52, Try.ntmps52
      go_wp2_with fail
      go_ret
      refine ⟨ret_bool (by simp), Cls.of ?_⟩
      repeat first | with_reducible exact Below.refl _ _ | with_reducible refine Below.setCell ?_ (by first | omega | (simp; done) | (simp; omega)) _ | with_reducible refine Below.alloc ?_ (by first | omega | (simp; done) | (simp; omega)) _ | with_reducible refine Below.drew ?_ | with_reducible refine Ext.on _ ?_ (by first | omega | (simp; done) | (simp; omega))
    by_cases k2 : pv = 0
    case neg =>
      have d2 : (pv == 0) = false := by simpa using k2
      rw [show leafB PF = false by rw [HLF.out]; simp [k2]]
      subst k1
      go_enter Try.func52, Try.ntmps52
      go_wp2_with fail
      go_ret
      refine ⟨ret_bool (by simp), Cls.of ?_⟩
      repeat first | with_reducible exact Below.refl _ _ | with_reducible refine Below.setCell ?_ (by first | omega | (simp; done) | (simp; omega)) _ | with_reducible refine Below.alloc ?_ (by first | omega | (simp; done) | (simp; omega)) _ | with_reducible refine Below.drew ?_ | with_reducible refine Ext.on _ ?_ (by first | omega | (simp; done) | (simp; omega))
    by_cases k3 : pb = 0
    case neg =>
      have d3 : (pb == 0) = false := by simpa using k3
      rw [show leafB PF = false by rw [HLF.out]; simp [k3]]
      subst k1
      subst k2
      go_enter Try.func52, Try.ntmps52
      go_wp2_with fail
      go_ret
      refine ⟨ret_bool (by simp), Cls.of ?_⟩
      repeat first | with_reducible exact Below.refl _ _ | with_reducible refine Below.setCell ?_ (by first | omega | (simp; done) | (simp; omega)) _ | with_reducible refine Below.alloc ?_ (by first | omega | (simp; done) | (simp; omega)) _ | with_reducible refine Below.drew ?_ | with_reducible refine Ext.on _ ?_ (by first | omega | (simp; done) | (simp; omega))
    rw [show leafB PF = true by rw [HLF.out]; simp [k1, k2, k3], Bool.true_and]
    clear HLF HSP HKD HCE HME
    subst k1
    subst k2
    subst k3
    go_enter Try.func52, Try.ntmps52
    go_wp2_with (go_at_call 13; (with_reducible refine Calls.mono (C2.out _ ?_) ?_); (focus (repeat first | with_reducible exact Below.refl _ _ | with_reducible refine Below.setCell ?_ (by first | omega | (simp; done) | (simp; omega)) _ | with_reducible refine Below.alloc ?_ (by first | omega | (simp; done) | (simp; omega)) _ | with_reducible refine Below.drew ?_ | with_reducible refine Ext.on _ ?_ (by first | omega | (simp; done) | (simp; omega)))); rintro e _ ⟨rfl, ⟨x, rfl⟩⟩)
    go_ret
    refine ⟨rfl, Cls.of ?_⟩
    repeat first | with_reducible exact Below.refl _ _ | with_reducible refine Below.setCell ?_ (by first | omega | (simp; done) | (simp; omega)) _ | with_reducible refine Below.alloc ?_ (by first | omega | (simp; done) | (simp; omega)) _ | with_reducible refine Below.drew ?_ | with_reducible refine Ext.on _ ?_ (by first | omega | (simp; done) | (simp; omega))
  rw [if_neg kk2]
  have e2 : (pk == 2) = false := by simpa using kk2
  by_cases kk3 : pk = 3
  case neg =>
    rw [if_neg kk3]
    have e3 : (pk == 3) = false := by simpa using kk3
    clear C1 C2 C3 C4 IH HSM
    unfold Sy.v at *
    generalize y.U.a = ua at *
    generalize y.U.len = un at *
    generalize y.U.cap = uc at *
    generalize y.R.a = ra at *
    generalize y.R.len = rn at *
    generalize y.R.cap = rc at *
    generalize y.B.a = ba at *
    generalize y.B.len = bn at *
    generalize y.B.cap = bc at *
    go_enter Try.func52, Try.ntmps52
    go_wp2_with fail
    go_ret
    refine ⟨rfl, Cls.of ?_⟩
    repeat first | with_reducible exact Below.refl _ _ | with_reducible refine Below.setCell ?_ (by first | omega | (simp; done) | (simp; omega)) _ | with_reducible refine Below.alloc ?_ (by first | omega | (simp; done) | (simp; omega)) _ | with_reducible refine Below.drew ?_ | with_reducible refine Ext.on _ ?_ (by first | omega | (simp; done) | (simp; omega))
  rw [if_pos kk3]
  subst kk3
  clear C1 C2 e1 e2 kk1 kk2
  have HSP := Lib.hid (HSP.out y.U.len)
  have CK : Hid (∀ (i : Nat) (hi : i < klen) (ga gb : Option Addr) (gc hc : Nat) (f g : Nat → Int) (W : World), Below w.heap.size w W → IntsA W ⟨ga, y.U.len, gc⟩ f → IntsA W ⟨gb, y.U.len, hc⟩ g → Calls Try.prog 52 #[y.v, (l.getD i Pf.z).val, .slice ga y.U.len gc, .slice gb y.U.len hc] W fun e w' => e = .returned (.bool (rtP y (l.getD i Pf.z) f g)) ∧ Cls W w') := Lib.hid fun i hi ga gb gc hc f g W hb h1 h2 => IH.out (l.getD i Pf.z) y ga gc f gb hc g W (HSM.out i hi) ((HKD.out i hi).later hb) (HY.out.later hb) h1 h2 hun
  clear IH HY HSM
  unfold Sy.v at *
  generalize y.U.a = ua at *
  generalize hunE : y.U.len = un at *
  have HUN := Lib.hid hunE
  clear hunE
  generalize y.U.cap = uc at *
  generalize y.R.a = ra at *
  generalize y.R.len = rn at *
  generalize y.R.cap = rc at *
  generalize y.B.a = ba at *
  generalize y.B.len = bn at *
  generalize y.B.cap = bc at *
  by_cases k1 : klen = 2
  case neg =>
    have d1 : ((klen : Int) != 2) = true := by simp; omega
    rw [show splitB un PF = false by rw [HSP.out]; simp [k1], Bool.false_and]
    clear HLF HSP HKD HCE HME
    go_enter Try.func52, Try.ntmps52
    go_wp2_with fail
    go_ret
    refine ⟨ret_bool (by simp), Cls.of ?_⟩
    repeat first | with_reducible exact Below.refl _ _ | with_reducible refine Below.setCell ?_ (by first | omega | (simp; done) | (simp; omega)) _ | with_reducible refine Below.alloc ?_ (by first | omega | (simp; done) | (simp; omega)) _ | with_reducible refine Below.drew ?_ | with_reducible refine Ext.on _ ?_ (by first | omega | (simp; done) | (simp; omega))
  have d1 : ((klen : Int) != 2) = false := by simp; omega
  by_cases k2 : mlen = 0
  case neg =>
    have d2 : decide ((0 : Int) < (mlen : Int)) = true := decide_eq_true (by omega)
    rw [show splitB un PF = false by rw [HSP.out]; simp [k2], Bool.false_and]
    clear HLF HSP HKD HCE HME
    go_enter Try.func52, Try.ntmps52
    go_wp2_with fail
    go_ret
    refine ⟨ret_bool (by simp), Cls.of ?_⟩
    repeat first | with_reducible exact Below.refl _ _ | with_reducible refine Below.setCell ?_ (by first | omega | (simp; done) | (simp; omega)) _ | with_reducible refine Below.alloc ?_ (by first | omega | (simp; done) | (simp; omega)) _ | with_reducible refine Below.drew ?_ | with_reducible refine Ext.on _ ?_ (by first | omega | (simp; done) | (simp; omega))
  have d2 : decide ((0 : Int) < (mlen : Int)) = false := decide_eq_false (by omega)
  by_cases k3 : 0 ≤ pv
  case neg =>
    have d3 : decide (pv < 0) = true := decide_eq_true (by omega)
    rw [show splitB un PF = false by rw [HSP.out]; simp [k3], Bool.false_and]
    clear HLF HSP HKD HCE HME
    go_enter Try.func52, Try.ntmps52
    go_wp2_with fail
    go_ret
    refine ⟨ret_bool (by simp), Cls.of ?_⟩
    repeat first | with_reducible exact Below.refl _ _ | with_reducible refine Below.setCell ?_ (by first | omega | (simp; done) | (simp; omega)) _ | with_reducible refine Below.alloc ?_ (by first | omega | (simp; done) | (simp; omega)) _ | with_reducible refine Below.drew ?_ | with_reducible refine Ext.on _ ?_ (by first | omega | (simp; done) | (simp; omega))
  have d3 : decide (pv < 0) = false := decide_eq_false (by omega)
  by_cases k4 : pv < (un : Int)
  case neg =>
    have d4 : decide ((un : Int) ≤ pv) = true := decide_eq_true (by omega)
    rw [show splitB un PF = false by rw [HSP.out]; simp [k4], Bool.false_and]
    clear HLF HSP HKD HCE HME
    go_enter Try.func52, Try.ntmps52
    go_wp2_with fail
    go_ret
    refine ⟨ret_bool (by simp), Cls.of ?_⟩
    repeat first | with_reducible exact Below.refl _ _ | with_reducible refine Below.setCell ?_ (by first | omega | (simp; done) | (simp; omega)) _ | with_reducible refine Below.alloc ?_ (by first | omega | (simp; done) | (simp; omega)) _ | with_reducible refine Below.drew ?_ | with_reducible refine Ext.on _ ?_ (by first | omega | (simp; done) | (simp; omega))
  have d4 : decide ((un : Int) ≤ pv) = false := decide_eq_false (by omega)
  by_cases k5 : 0 ≤ pb
  case neg =>
    have d5 : decide (pb < 0) = true := decide_eq_true (by omega)
    rw [show splitB un PF = false by rw [HSP.out]; simp [k5], Bool.false_and]
    clear HLF HSP HKD HCE HME
    go_enter Try.func52, Try.ntmps52
    go_wp2_with fail
    go_ret
    refine ⟨ret_bool (by simp), Cls.of ?_⟩
    repeat first | with_reducible exact Below.refl _ _ | with_reducible refine Below.setCell ?_ (by first | omega | (simp; done) | (simp; omega)) _ | with_reducible refine Below.alloc ?_ (by first | omega | (simp; done) | (simp; omega)) _ | with_reducible refine Below.drew ?_ | with_reducible refine Ext.on _ ?_ (by first | omega | (simp; done) | (simp; omega))
  have d5 : decide (pb < 0) = false := decide_eq_false (by omega)
  by_cases k6 : pb ≤ 1000000000
  case neg =>
    have d6 : decide ((1000000000 : Int) < pb) = true := decide_eq_true (by omega)
    rw [show splitB un PF = false by rw [HSP.out]; simp [k6], Bool.false_and]
    clear HLF HSP HKD HCE HME
    go_enter Try.func52, Try.ntmps52
    go_wp2_with fail
    go_ret
    refine ⟨ret_bool (by simp), Cls.of ?_⟩
    repeat first | with_reducible exact Below.refl _ _ | with_reducible refine Below.setCell ?_ (by first | omega | (simp; done) | (simp; omega)) _ | with_reducible refine Below.alloc ?_ (by first | omega | (simp; done) | (simp; omega)) _ | with_reducible refine Below.drew ?_ | with_reducible refine Ext.on _ ?_ (by first | omega | (simp; done) | (simp; omega))
  have d6 : decide ((1000000000 : Int) < pb) = false := decide_eq_false (by omega)
  rw [show splitB un PF = true by rw [HSP.out]; simp [k1, k2, k3, k4, k5, k6], Bool.true_and, rtL_two y l _ _ _ _ (by omega)]
  obtain ⟨vn, rfl⟩ : ∃ vn : Nat, pv = (vn : Int) := ⟨pv.toNat, by omega⟩
  rw [Int.toNat_natCast]
  have hvn : vn < un := by omega
  subst k1
  subst k2
  clear HLF HSP
  obtain ⟨b, off, ha, hlt, hc⟩ := HCE.out.resolve_left (by omega)
  subst ha
  obtain ⟨a0, a1, a2, a3, a4⟩ := hc 0 (by omega)
  obtain ⟨g0, g1, g2, g3, g4⟩ := hc 1 (by omega)
  have HK0 := Lib.hid (CK.out 0 (by omega))
  have HK1 := Lib.hid (CK.out 1 (by omega))
  clear CK HCE hc HKD HME
  unfold Pf.val at HK0 HK1
  generalize (l.getD 0 Pf.z).kind = k0k at *
  generalize (l.getD 0 Pf.z).mu = k0m at *
  generalize (l.getD 0 Pf.z).v = k0v at *
  generalize (l.getD 0 Pf.z).bd = k0b at *
  generalize (l.getD 0 Pf.z).ks = k0s at *
  generalize (l.getD 1 Pf.z).kind = k1k at *
  generalize (l.getD 1 Pf.z).mu = k1m at *
  generalize (l.getD 1 Pf.z).v = k1v at *
  generalize (l.getD 1 Pf.z).bd = k1b at *
  generalize (l.getD 1 Pf.z).ks = k1s at *
  obtain ⟨up', hup'⟩ : ∃ f, updI up (vn : Int) (min (up vn) pb) = f := ⟨_, rfl⟩
  obtain ⟨lo', hlo'⟩ : ∃ f, updI lo (vn : Int) (max (lo vn) (pb + 1)) = f := ⟨_, rfl⟩
  rw [hup', hlo']
  have HUP := Lib.hid hup'
  have HLO' := Lib.hid hlo'
  clear hup' hlo'
  obtain ⟨r0, hr0⟩ : ∃ r, rtP y (l.getD 0 Pf.z) lo up' = r := ⟨_, rfl⟩
  obtain ⟨r1, hr1⟩ : ∃ r, rtP y (l.getD 1 Pf.z) lo' up = r := ⟨_, rfl⟩
  rw [hr0, hr1]
  have HR0 := Lib.hid hr0
  have HR01 := Lib.hid hr1
  clear hr0 hr1
  have hwp : IntKind.i64.wrap (pb + 1) = pb + 1 := (by rw [IntKind.wrap_i64]; omega)
  have A0 := Lib.hid (And.intro a0 (And.intro a1 (And.intro a2 (And.intro a3 a4))))
  have G0 := Lib.hid (And.intro g0 (And.intro g1 (And.intro g2 (And.intro g3 g4))))
  clear a0 a1 a2 a3 a4 g0 g1 g2 g3 g4
  go_enter Try.func52, Try.ntmps52
  go_wp2_with (first
    | (go_at_call 81; (with_reducible refine Calls.mono (C3.out _ ?_) ?_); (focus (repeat first | with_reducible exact Below.refl _ _ | with_reducible refine Below.setCell ?_ (by first | omega | (simp; done) | (simp; omega)) _ | with_reducible refine Below.alloc ?_ (by first | omega | (simp; done) | (simp; omega)) _ | with_reducible refine Below.drew ?_ | with_reducible refine Ext.on _ ?_ (by first | omega | (simp; done) | (simp; omega)))); rintro e _ ⟨b1, rfl, hb1, hr1, ⟨x1, rfl⟩⟩; have x1s := x1.size; (try simp at x1s hb1); have HR1 := Lib.hid hr1; clear hr1)
    | (go_at_call 81; (with_reducible refine Calls.mono (C4.out _ ?_) ?_); (focus (repeat first | with_reducible exact Below.refl _ _ | with_reducible refine Below.setCell ?_ (by first | omega | (simp; done) | (simp; omega)) _ | with_reducible refine Below.alloc ?_ (by first | omega | (simp; done) | (simp; omega)) _ | with_reducible refine Below.drew ?_ | with_reducible refine Ext.on _ ?_ (by first | omega | (simp; done) | (simp; omega)))); rintro e _ ⟨b2, rfl, hb2, hr2, ⟨x2, rfl⟩⟩; have x2s := x2.size; have HR2 := Lib.hid hr2; clear hr2))
  have hb1l := (HR1.out.cell hvn).1
  refine wp_at (fun W => Below w.heap.size w W ∧ W.heap[w.heap.size]? = some (.cells #[.slice ua un uc, .slice ra rn rc, .slice ba bn bc] 30) ∧ W.heap[w.heap.size + 1]? = some (.cells #[.int .i64 3, .slice ma 0 mcap, .int .i64 (vn : Int), .int .i64 pb, .slice (some ⟨b, off, none⟩) 2 kcap] 48) ∧ RowOwn W b1 un lo ∧ RowOwn W b2 un up) ⟨(by repeat first | with_reducible exact Below.refl _ _ | with_reducible refine Below.setCell ?_ (by first | omega | (simp; done) | (simp; omega)) _ | with_reducible refine Below.alloc ?_ (by first | omega | (simp; done) | (simp; omega)) _ | with_reducible refine Below.drew ?_ | with_reducible refine Ext.on _ ?_ (by first | omega | (simp; done) | (simp; omega))), (x2.below.block _ (by omega)).trans ((x1.below.block _ (by simp; omega)).trans (heap_two0 w _ _)), (x2.below.block _ (by omega)).trans ((x1.below.block _ (by simp)).trans (heap_two1 w _ _)), HR1.out.later x2.below, HR2.out⟩ ?_
  have hne : b1 ≠ b2 := by omega
  have hb2g : w.heap.size + 1 < b2 := by omega
  have hb1g : w.heap.size + 1 < b1 := by omega
  clear HR1 HR2 C3 C4 x1s x2s hb1 hb2 hb1l
  rintro W5 ⟨hB5, hs5, hf5, hr1, hr2⟩
  have HB5 := Lib.hid hB5
  have hB5s := hB5.size
  obtain ⟨hx0, c0, c1, c2⟩ := three_s hs5
  obtain ⟨hx1, p0, p1, p2, p3, p4⟩ := five_s hf5
  obtain ⟨hb2l, fz2, cv2⟩ := hr2.cell hvn
  have HROW : Hid (∀ (y0 : Ext W5) (x : Int), x = min (up vn) pb → Below w.heap.size w (y0.val.setCell ⟨b2, vn, none⟩ (.int .i64 x)) ∧ (y0.val.setCell ⟨b2, vn, none⟩ (.int .i64 x)).heap[w.heap.size]? = some (.cells #[.slice ua un uc, .slice ra rn rc, .slice ba bn bc] 30) ∧ (y0.val.setCell ⟨b2, vn, none⟩ (.int .i64 x)).heap[w.heap.size + 1]? = some (.cells #[.int .i64 3, .slice ma 0 mcap, .int .i64 (vn : Int), .int .i64 pb, .slice (some ⟨b, off, none⟩) 2 kcap] 48) ∧ RowOwn (y0.val.setCell ⟨b2, vn, none⟩ (.int .i64 x)) b1 un lo ∧ RowOwn (y0.val.setCell ⟨b2, vn, none⟩ (.int .i64 x)) b2 un up') := Lib.hid fun y0 x hx => by
    refine ⟨(y0.on hB5 hB5s).setCell (by show _ ≤ b2; omega) _, ?_, ?_, ?_, ?_⟩
    · rw [heap_setCell_other _ _ _ _ (by show _ ≠ b2; omega)]; exact (y0.below.block _ hx0).trans hs5
    · rw [heap_setCell_other _ _ _ _ (by show _ ≠ b2; omega)]; exact (y0.below.block _ hx1).trans hf5
    · unfold RowOwn
      rw [heap_setCell_other _ _ _ _ (show b1 ≠ b2 from hne)]; exact hr1.later y0.below
    · rw [← HUP.out, ← hx]; exact (hr2.later y0.below).set x
  clear hs5 hf5 hr1 hr2 hB5 HUP
  generalize up vn = uv at *
  refine wp_region_lin (by kernel_rfl) (by kernel_rfl) ?_
  intro y0
  have y0s := y0.size
  repeat (refine lin_calm rfl ?_; intro KK hKK; go_big_quiet_step (fail); refine wpQuiet_nil ?_; refine hKK _ ?_; clear hKK KK)
  refine lin_free rfl ?_
  intro KK hKK
  go_wp2_with fail
  all_goals
    refine hKK _ _ (.inr ⟨y0, rfl⟩) ?_
    clear hKK KK
    repeat (refine lin_calm rfl ?_; intro KK hKK; go_big_quiet_step (fail); refine wpQuiet_nil ?_; refine hKK _ ?_; clear hKK KK)
    refine lin_free rfl ?_
    intro KK hKK
    go_wp2_with fail
    refine hKK _ _ (by first | exact .inl rfl | exact .inl trivial) ?_
    clear hKK KK
    refine lin_nil ?_
    go_wp2_with fail
    refine wp_at (fun W => Below w.heap.size w W ∧ W.heap[w.heap.size]? = some (.cells #[.slice ua un uc, .slice ra rn rc, .slice ba bn bc] 30) ∧ W.heap[w.heap.size + 1]? = some (.cells #[.int .i64 3, .slice ma 0 mcap, .int .i64 (vn : Int), .int .i64 pb, .slice (some ⟨b, off, none⟩) 2 kcap] 48) ∧ RowOwn W b1 un lo ∧ RowOwn W b2 un up') (HROW.out y0 _ (by omega)) ?_
    clear HROW HB5 p0 p1 p2 p3 p4 c0 c1 c2 fz2 cv2 y0s hB5s hx0 hx1 hb2l
    rintro W6 ⟨hB5, hs5, hf5, hr1, hr2⟩
    have hB5s := hB5.size
    obtain ⟨hx0, c0, c1, c2⟩ := three_s hs5
    obtain ⟨hx1, p0, p1, p2, p3, p4⟩ := five_s hf5
    obtain ⟨hb1l, fz1, cv1⟩ := hr1.cell hvn
    have HROW : Hid (∀ (y0 : Ext W6) (x : Int), x = max (lo vn) (pb + 1) → Below w.heap.size w (y0.val.setCell ⟨b1, vn, none⟩ (.int .i64 x)) ∧ (y0.val.setCell ⟨b1, vn, none⟩ (.int .i64 x)).heap[w.heap.size]? = some (.cells #[.slice ua un uc, .slice ra rn rc, .slice ba bn bc] 30) ∧ (y0.val.setCell ⟨b1, vn, none⟩ (.int .i64 x)).heap[w.heap.size + 1]? = some (.cells #[.int .i64 3, .slice ma 0 mcap, .int .i64 (vn : Int), .int .i64 pb, .slice (some ⟨b, off, none⟩) 2 kcap] 48) ∧ RowOwn (y0.val.setCell ⟨b1, vn, none⟩ (.int .i64 x)) b1 un lo' ∧ RowOwn (y0.val.setCell ⟨b1, vn, none⟩ (.int .i64 x)) b2 un up') := Lib.hid fun y0 x hx => by
      refine ⟨(y0.on hB5 hB5s).setCell (by show _ ≤ b1; omega) _, ?_, ?_, ?_, ?_⟩
      · rw [heap_setCell_other _ _ _ _ (by show _ ≠ b1; omega)]; exact (y0.below.block _ hx0).trans hs5
      · rw [heap_setCell_other _ _ _ _ (by show _ ≠ b1; omega)]; exact (y0.below.block _ hx1).trans hf5
      · rw [← HLO'.out, ← hx]; exact (hr1.later y0.below).set x
      · unfold RowOwn
        rw [heap_setCell_other _ _ _ _ (show b2 ≠ b1 from hne.symm)]; exact hr2.later y0.below
    have HLO2 := Lib.hid HLO.out
    clear hs5 hf5 hr1 hr2 hB5 HLO'
    have hlv : Hid (lo vn = lo vn) := Lib.hid rfl
    generalize lo vn = lv at *
    refine wp_region_lin (by kernel_rfl) (by kernel_rfl) ?_
    intro y0
    have y0s := y0.size
    repeat (refine lin_calm rfl ?_; intro KK hKK; go_big_quiet_step (fail); refine wpQuiet_nil ?_; refine hKK _ ?_; clear hKK KK)
    refine lin_free rfl ?_
    intro KK hKK
    go_wp2_with fail
    all_goals
      refine hKK _ _ (.inr ⟨y0, rfl⟩) ?_
      clear hKK KK
      repeat (refine lin_calm rfl ?_; intro KK hKK; go_big_quiet_step (fail); refine wpQuiet_nil ?_; refine hKK _ ?_; clear hKK KK)
      refine lin_free rfl ?_
      intro KK hKK
      go_wp2_with fail
      refine hKK _ _ (by first | exact .inl rfl | exact .inl trivial) ?_
      clear hKK KK
      refine lin_nil ?_
      go_wp2_with fail
      refine wp_at (fun W => Below w.heap.size w W ∧ W.heap[w.heap.size]? = some (.cells #[.slice ua un uc, .slice ra rn rc, .slice ba bn bc] 30) ∧ W.heap[w.heap.size + 1]? = some (.cells #[.int .i64 3, .slice ma 0 mcap, .int .i64 (vn : Int), .int .i64 pb, .slice (some ⟨b, off, none⟩) 2 kcap] 48) ∧ RowOwn W b1 un lo' ∧ RowOwn W b2 un up') (HROW.out y0 _ (by omega)) ?_
      clear HROW p0 p1 p2 p3 p4 c0 c1 c2 fz1 cv1 y0s hB5s hx0 hx1 hb1l hlv
      rintro W7 ⟨hB7, hs5, hf5, hr1, hr2⟩
      have HB7 := Lib.hid hB7
      have hB5s := hB7.size
      obtain ⟨hx0, c0, c1, c2⟩ := three_s hs5
      obtain ⟨hx1, p0, p1, p2, p3, p4⟩ := five_s hf5
      obtain ⟨a0, a1, a2, a3, a4⟩ := A0.out
      obtain ⟨g0, g1, g2, g3, g4⟩ := G0.out
      have hbw : b < W7.heap.size := by omega
      have s0 := (hB7.cell (p := ⟨b, off + 0 * 5, none⟩) hlt).trans a0
      have s1 := (hB7.cell (p := ⟨b, off + 0 * 5 + 1, none⟩) hlt).trans a1
      have s2 := (hB7.cell (p := ⟨b, off + 0 * 5 + 2, none⟩) hlt).trans a2
      have s3 := (hB7.cell (p := ⟨b, off + 0 * 5 + 3, none⟩) hlt).trans a3
      have s4 := (hB7.cell (p := ⟨b, off + 0 * 5 + 4, none⟩) hlt).trans a4
      have t0 := (hB7.cell (p := ⟨b, off + 1 * 5, none⟩) hlt).trans g0
      have t1 := (hB7.cell (p := ⟨b, off + 1 * 5 + 1, none⟩) hlt).trans g1
      have t2 := (hB7.cell (p := ⟨b, off + 1 * 5 + 2, none⟩) hlt).trans g2
      have t3 := (hB7.cell (p := ⟨b, off + 1 * 5 + 3, none⟩) hlt).trans g3
      have t4 := (hB7.cell (p := ⟨b, off + 1 * 5 + 4, none⟩) hlt).trans g4
      rw [Nat.zero_mul, Nat.add_zero] at s0 s1 s2 s3 s4
      rw [Nat.one_mul] at t0 t1 t2 t3 t4
      have CR0 := Lib.hid (fun (W : World) (hb : Below W7.heap.size W7 W) => HK0.out la (some ⟨b2, 0, none⟩) lc un lo up' W (hB7.trans (hb.mono hB5s)) ((HLO2.out.later hB7).later hb) ((hr2.later hb).ints (by omega)))
      have CR1 := Lib.hid (fun (W : World) (hb : Below W7.heap.size W7 W) => HK1.out (some ⟨b1, 0, none⟩) pa un pc lo' up W (hB7.trans (hb.mono hB5s)) ((hr1.later hb).ints (by omega)) ((HPO.out.later hB7).later hb))
      clear hB7 hs5 hf5 hr1 hr2 HK0 HK1 A0 G0 a0 a1 a2 a3 a4 g0 g1 g2 g3 g4 HLO HLO2 HPO
      rw [HR0.out] at CR0
      rw [HR01.out] at CR1
      clear HR0 HR01
      cases r0
      case true =>
        refine wp_region_inv (x := (⟨W7, Below.refl _ _⟩ : Ext W7)) (fun j u W => match j with
          | 0 => u = .agg #[.slice ua un uc, .slice ra rn rc, .slice ba bn bc]
          | 1 => u = .pointer (some ⟨w.heap.size + 1, 4, none⟩)
          | 2 => u = .slice (some ⟨b, off, none⟩) 2 kcap
          | 3 => u = .pointer (some ⟨b, off, none⟩)
          | 4 => u = .agg #[.int .i64 k0k, .slice k0m.a k0m.len k0m.cap, .int .i64 k0v, .int .i64 k0b, .slice k0s.a k0s.len k0s.cap]
          | 5 => u = .slice la un lc
          | 6 => u = .slice (some ⟨b2, 0, none⟩) un un
          | 7 => u = .bool true
          | 8 => u = .bool true
          | 9 => u = .agg #[.slice ua un uc, .slice ra rn rc, .slice ba bn bc]
          | 10 => u = .pointer (some ⟨w.heap.size + 1, 4, none⟩)
          | 11 => u = .slice (some ⟨b, off, none⟩) 2 kcap
          | 12 => u = .pointer (some ⟨b, off + 5, none⟩)
          | 13 => u = .agg #[.int .i64 k1k, .slice k1m.a k1m.len k1m.cap, .int .i64 k1v, .int .i64 k1b, .slice k1s.a k1s.len k1s.cap]
          | 14 => u = .slice (some ⟨b1, 0, none⟩) un un
          | 15 => u = .slice pa un pc
          | 16 => u = .bool r1
          | 17 => u = .bool r1
          | 18 => u = .bool r1
          | _ => True) 141 (by kernel_rfl) rfl (by kernel_rfl) (fun j u W1 W2 hcc => by
          match j with
          | 0 => exact id
          | 1 => exact id
          | 2 => exact id
          | 3 => exact id
          | 4 => exact id
          | 5 => exact id
          | 6 => exact id
          | 7 => exact id
          | 8 => exact id
          | 9 => exact id
          | 10 => exact id
          | 11 => exact id
          | 12 => exact id
          | 13 => exact id
          | 14 => exact id
          | 15 => exact id
          | 16 => exact id
          | 17 => exact id
          | 18 => exact id
          | _ + 19 => exact id) ?_
        refine inv_step (fun W hW hd K hK => ?_) (fun v0 aq hq => ?_)
        · obtain ⟨y, rfl⟩ := hW
          have ys := y.size
          have HK := Lib.hid hK
          clear hd hK
          go_wp2_with fail
          exact HK.out _ _ rfl ⟨⟨y, rfl⟩, ⟨⟨y.val, Below.refl _ _⟩, rfl⟩⟩ rfl trivial
        simp only [Act.put, List.setIfInBounds_toArray, List.set_cons_zero, List.set_cons_succ] at hq
        subst hq
        refine inv_step (fun W hW hd K hK => ?_) (fun v1 aq hq => ?_)
        · obtain ⟨y, rfl⟩ := hW
          have ys := y.size
          have HK := Lib.hid hK
          clear hd hK
          go_wp2_with fail
          exact HK.out _ _ rfl ⟨⟨y, rfl⟩, ⟨⟨y.val, Below.refl _ _⟩, rfl⟩⟩ rfl trivial
        simp only [Act.put, List.setIfInBounds_toArray, List.set_cons_zero, List.set_cons_succ] at hq
        subst hq
        refine inv_step (fun W hW hd K hK => ?_) (fun v2 aq hq => ?_)
        · obtain ⟨y, rfl⟩ := hW
          have ys := y.size
          have HK := Lib.hid hK
          obtain rfl : v1 = .pointer (some ⟨w.heap.size + 1, 4, none⟩) := hd 1 (by kernel_rfl)
          clear hd hK
          go_wp2_with fail
          exact HK.out _ _ rfl ⟨⟨y, rfl⟩, ⟨⟨y.val, Below.refl _ _⟩, rfl⟩⟩ rfl trivial
        simp only [Act.put, List.setIfInBounds_toArray, List.set_cons_zero, List.set_cons_succ] at hq
        subst hq
        refine inv_step (fun W hW hd K hK => ?_) (fun v3 aq hq => ?_)
        · obtain ⟨y, rfl⟩ := hW
          have ys := y.size
          have HK := Lib.hid hK
          obtain rfl : v2 = .slice (some ⟨b, off, none⟩) 2 kcap := hd 2 (by kernel_rfl)
          clear hd hK
          go_wp2_with fail
          exact HK.out _ _ rfl ⟨⟨y, rfl⟩, ⟨⟨y.val, Below.refl _ _⟩, rfl⟩⟩ rfl trivial
        simp only [Act.put, List.setIfInBounds_toArray, List.set_cons_zero, List.set_cons_succ] at hq
        subst hq
        refine inv_step (fun W hW hd K hK => ?_) (fun v4 aq hq => ?_)
        · obtain ⟨y, rfl⟩ := hW
          have ys := y.size
          have HK := Lib.hid hK
          obtain rfl : v3 = .pointer (some ⟨b, off, none⟩) := hd 3 (by kernel_rfl)
          clear hd hK
          go_wp2_with fail
          exact HK.out _ _ rfl ⟨⟨y, rfl⟩, ⟨⟨y.val, Below.refl _ _⟩, rfl⟩⟩ rfl trivial
        simp only [Act.put, List.setIfInBounds_toArray, List.set_cons_zero, List.set_cons_succ] at hq
        subst hq
        refine inv_step (fun W hW hd K hK => ?_) (fun v5 aq hq => ?_)
        · obtain ⟨y, rfl⟩ := hW
          have ys := y.size
          have HK := Lib.hid hK
          clear hd hK
          go_wp2_with fail
          exact HK.out _ _ rfl ⟨⟨y, rfl⟩, ⟨⟨y.val, Below.refl _ _⟩, rfl⟩⟩ rfl trivial
        simp only [Act.put, List.setIfInBounds_toArray, List.set_cons_zero, List.set_cons_succ] at hq
        subst hq
        refine inv_step (fun W hW hd K hK => ?_) (fun v6 aq hq => ?_)
        · obtain ⟨y, rfl⟩ := hW
          have ys := y.size
          have HK := Lib.hid hK
          clear hd hK
          go_wp2_with fail
          exact HK.out _ _ rfl ⟨⟨y, rfl⟩, ⟨⟨y.val, Below.refl _ _⟩, rfl⟩⟩ rfl trivial
        simp only [Act.put, List.setIfInBounds_toArray, List.set_cons_zero, List.set_cons_succ] at hq
        subst hq
        refine inv_step (fun W hW hd K hK => ?_) (fun v7 aq hq => ?_)
        · obtain ⟨y, rfl⟩ := hW
          have ys := y.size
          have HK := Lib.hid hK
          obtain rfl : v0 = .agg #[.slice ua un uc, .slice ra rn rc, .slice ba bn bc] := hd 0 (by kernel_rfl)
          obtain rfl : v4 = .agg #[.int .i64 k0k, .slice k0m.a k0m.len k0m.cap, .int .i64 k0v, .int .i64 k0b, .slice k0s.a k0s.len k0s.cap] := hd 4 (by kernel_rfl)
          obtain rfl : v5 = .slice la un lc := hd 5 (by kernel_rfl)
          obtain rfl : v6 = .slice (some ⟨b2, 0, none⟩) un un := hd 6 (by kernel_rfl)
          clear hd hK
          go_wp2_with (go_at_call 52; (with_reducible refine Calls.mono (CR0.out y.val y.below) ?_); rintro e _ ⟨rfl, ⟨z, rfl⟩⟩)
          exact HK.out _ _ rfl ⟨Cls.step y ⟨z, rfl⟩, ⟨z, rfl⟩⟩ rfl trivial
        simp only [Act.put, List.setIfInBounds_toArray, List.set_cons_zero, List.set_cons_succ] at hq
        subst hq
        refine inv_step (fun W hW hd K hK => ?_) (fun v8 aq hq => ?_)
        · obtain ⟨y, rfl⟩ := hW
          have ys := y.size
          have HK := Lib.hid hK
          obtain rfl : v7 = .bool true := hd 7 (by kernel_rfl)
          clear hd hK
          go_wp2_with fail
          exact HK.out _ _ rfl ⟨⟨y, rfl⟩, ⟨⟨y.val, Below.refl _ _⟩, rfl⟩⟩ rfl trivial
        simp only [Act.put, List.setIfInBounds_toArray, List.set_cons_zero, List.set_cons_succ] at hq
        subst hq
        refine inv_step (fun W hW hd K hK => ?_) (fun v9 aq hq => ?_)
        · obtain ⟨y, rfl⟩ := hW
          have ys := y.size
          have HK := Lib.hid hK
          obtain rfl : v8 = .bool true := hd 8 (by kernel_rfl)
          clear hd hK
          go_wp2_with fail
          exact HK.out _ _ rfl ⟨⟨y, rfl⟩, ⟨⟨y.val, Below.refl _ _⟩, rfl⟩⟩ rfl trivial
        simp only [Act.put, List.setIfInBounds_toArray, List.set_cons_zero, List.set_cons_succ] at hq
        subst hq
        refine inv_step (fun W hW hd K hK => ?_) (fun v10 aq hq => ?_)
        · obtain ⟨y, rfl⟩ := hW
          have ys := y.size
          have HK := Lib.hid hK
          obtain rfl : v8 = .bool true := hd 8 (by kernel_rfl)
          clear hd hK
          go_wp2_with fail
          exact HK.out _ _ rfl ⟨⟨y, rfl⟩, ⟨⟨y.val, Below.refl _ _⟩, rfl⟩⟩ rfl trivial
        simp only [Act.put, List.setIfInBounds_toArray, List.set_cons_zero, List.set_cons_succ] at hq
        subst hq
        refine inv_step (fun W hW hd K hK => ?_) (fun v11 aq hq => ?_)
        · obtain ⟨y, rfl⟩ := hW
          have ys := y.size
          have HK := Lib.hid hK
          obtain rfl : v8 = .bool true := hd 8 (by kernel_rfl)
          obtain rfl : v10 = .pointer (some ⟨w.heap.size + 1, 4, none⟩) := hd 10 (by kernel_rfl)
          clear hd hK
          go_wp2_with fail
          exact HK.out _ _ rfl ⟨⟨y, rfl⟩, ⟨⟨y.val, Below.refl _ _⟩, rfl⟩⟩ rfl trivial
        simp only [Act.put, List.setIfInBounds_toArray, List.set_cons_zero, List.set_cons_succ] at hq
        subst hq
        refine inv_step (fun W hW hd K hK => ?_) (fun v12 aq hq => ?_)
        · obtain ⟨y, rfl⟩ := hW
          have ys := y.size
          have HK := Lib.hid hK
          obtain rfl : v8 = .bool true := hd 8 (by kernel_rfl)
          obtain rfl : v11 = .slice (some ⟨b, off, none⟩) 2 kcap := hd 11 (by kernel_rfl)
          clear hd hK
          go_wp2_with fail
          exact HK.out _ _ rfl ⟨⟨y, rfl⟩, ⟨⟨y.val, Below.refl _ _⟩, rfl⟩⟩ rfl trivial
        simp only [Act.put, List.setIfInBounds_toArray, List.set_cons_zero, List.set_cons_succ] at hq
        subst hq
        refine inv_step (fun W hW hd K hK => ?_) (fun v13 aq hq => ?_)
        · obtain ⟨y, rfl⟩ := hW
          have ys := y.size
          have HK := Lib.hid hK
          obtain rfl : v8 = .bool true := hd 8 (by kernel_rfl)
          obtain rfl : v12 = .pointer (some ⟨b, off + 5, none⟩) := hd 12 (by kernel_rfl)
          clear hd hK
          go_wp2_with fail
          exact HK.out _ _ rfl ⟨⟨y, rfl⟩, ⟨⟨y.val, Below.refl _ _⟩, rfl⟩⟩ rfl trivial
        simp only [Act.put, List.setIfInBounds_toArray, List.set_cons_zero, List.set_cons_succ] at hq
        subst hq
        refine inv_step (fun W hW hd K hK => ?_) (fun v14 aq hq => ?_)
        · obtain ⟨y, rfl⟩ := hW
          have ys := y.size
          have HK := Lib.hid hK
          obtain rfl : v8 = .bool true := hd 8 (by kernel_rfl)
          clear hd hK
          go_wp2_with fail
          exact HK.out _ _ rfl ⟨⟨y, rfl⟩, ⟨⟨y.val, Below.refl _ _⟩, rfl⟩⟩ rfl trivial
        simp only [Act.put, List.setIfInBounds_toArray, List.set_cons_zero, List.set_cons_succ] at hq
        subst hq
        refine inv_step (fun W hW hd K hK => ?_) (fun v15 aq hq => ?_)
        · obtain ⟨y, rfl⟩ := hW
          have ys := y.size
          have HK := Lib.hid hK
          obtain rfl : v8 = .bool true := hd 8 (by kernel_rfl)
          clear hd hK
          go_wp2_with fail
          exact HK.out _ _ rfl ⟨⟨y, rfl⟩, ⟨⟨y.val, Below.refl _ _⟩, rfl⟩⟩ rfl trivial
        simp only [Act.put, List.setIfInBounds_toArray, List.set_cons_zero, List.set_cons_succ] at hq
        subst hq
        refine inv_step (fun W hW hd K hK => ?_) (fun v16 aq hq => ?_)
        · obtain ⟨y, rfl⟩ := hW
          have ys := y.size
          have HK := Lib.hid hK
          obtain rfl : v8 = .bool true := hd 8 (by kernel_rfl)
          obtain rfl : v9 = .agg #[.slice ua un uc, .slice ra rn rc, .slice ba bn bc] := hd 9 (by kernel_rfl)
          obtain rfl : v13 = .agg #[.int .i64 k1k, .slice k1m.a k1m.len k1m.cap, .int .i64 k1v, .int .i64 k1b, .slice k1s.a k1s.len k1s.cap] := hd 13 (by kernel_rfl)
          obtain rfl : v14 = .slice (some ⟨b1, 0, none⟩) un un := hd 14 (by kernel_rfl)
          obtain rfl : v15 = .slice pa un pc := hd 15 (by kernel_rfl)
          clear hd hK
          go_wp2_with (go_at_call 52; (with_reducible refine Calls.mono (CR1.out y.val y.below) ?_); rintro e _ ⟨rfl, ⟨z, rfl⟩⟩)
          exact HK.out _ _ rfl ⟨Cls.step y ⟨z, rfl⟩, ⟨z, rfl⟩⟩ rfl trivial
        simp only [Act.put, List.setIfInBounds_toArray, List.set_cons_zero, List.set_cons_succ] at hq
        subst hq
        refine inv_step (fun W hW hd K hK => ?_) (fun v17 aq hq => ?_)
        · obtain ⟨y, rfl⟩ := hW
          have ys := y.size
          have HK := Lib.hid hK
          obtain rfl : v8 = .bool true := hd 8 (by kernel_rfl)
          obtain rfl : v16 = .bool r1 := hd 16 (by kernel_rfl)
          clear hd hK
          go_wp2_with fail
          exact HK.out _ _ rfl ⟨⟨y, rfl⟩, ⟨⟨y.val, Below.refl _ _⟩, rfl⟩⟩ rfl trivial
        simp only [Act.put, List.setIfInBounds_toArray, List.set_cons_zero, List.set_cons_succ] at hq
        subst hq
        refine inv_step (fun W hW hd K hK => ?_) (fun v18 aq hq => ?_)
        · obtain ⟨y, rfl⟩ := hW
          have ys := y.size
          have HK := Lib.hid hK
          obtain rfl : v17 = .bool r1 := hd 17 (by kernel_rfl)
          clear hd hK
          go_wp2_with fail
          exact HK.out _ _ rfl ⟨⟨y, rfl⟩, ⟨⟨y.val, Below.refl _ _⟩, rfl⟩⟩ rfl trivial
        simp only [Act.put, List.setIfInBounds_toArray, List.set_cons_zero, List.set_cons_succ] at hq
        subst hq
        refine inv_nil fun W hW hT hR => ?_
        obtain ⟨y, rfl⟩ := hW
        have ys := y.size
        obtain rfl : v18 = .bool r1 := hT 18 (by decide)
        clear hT hR
        go_wp2_with fail
        go_ret
        exact ⟨ret_bool (by simp), Cls.of (y.on HB7.out (by omega))⟩
      case false =>
        refine wp_region_inv (x := (⟨W7, Below.refl _ _⟩ : Ext W7)) (fun j u W => match j with
          | 0 => u = .agg #[.slice ua un uc, .slice ra rn rc, .slice ba bn bc]
          | 1 => u = .pointer (some ⟨w.heap.size + 1, 4, none⟩)
          | 2 => u = .slice (some ⟨b, off, none⟩) 2 kcap
          | 3 => u = .pointer (some ⟨b, off, none⟩)
          | 4 => u = .agg #[.int .i64 k0k, .slice k0m.a k0m.len k0m.cap, .int .i64 k0v, .int .i64 k0b, .slice k0s.a k0s.len k0s.cap]
          | 5 => u = .slice la un lc
          | 6 => u = .slice (some ⟨b2, 0, none⟩) un un
          | 7 => u = .bool false
          | 8 => u = .bool false
          | 9 => u = undef
          | 10 => u = undef
          | 11 => u = undef
          | 12 => u = undef
          | 13 => u = undef
          | 14 => u = undef
          | 15 => u = undef
          | 16 => u = undef
          | 17 => u = .bool false
          | 18 => u = .bool false
          | _ => True) 141 (by kernel_rfl) rfl (by kernel_rfl) (fun j u W1 W2 hcc => by
          match j with
          | 0 => exact id
          | 1 => exact id
          | 2 => exact id
          | 3 => exact id
          | 4 => exact id
          | 5 => exact id
          | 6 => exact id
          | 7 => exact id
          | 8 => exact id
          | 9 => exact id
          | 10 => exact id
          | 11 => exact id
          | 12 => exact id
          | 13 => exact id
          | 14 => exact id
          | 15 => exact id
          | 16 => exact id
          | 17 => exact id
          | 18 => exact id
          | _ + 19 => exact id) ?_
        refine inv_step (fun W hW hd K hK => ?_) (fun v0 aq hq => ?_)
        · obtain ⟨y, rfl⟩ := hW
          have ys := y.size
          have HK := Lib.hid hK
          clear hd hK
          go_wp2_with fail
          exact HK.out _ _ rfl ⟨⟨y, rfl⟩, ⟨⟨y.val, Below.refl _ _⟩, rfl⟩⟩ rfl trivial
        simp only [Act.put, List.setIfInBounds_toArray, List.set_cons_zero, List.set_cons_succ] at hq
        subst hq
        refine inv_step (fun W hW hd K hK => ?_) (fun v1 aq hq => ?_)
        · obtain ⟨y, rfl⟩ := hW
          have ys := y.size
          have HK := Lib.hid hK
          clear hd hK
          go_wp2_with fail
          exact HK.out _ _ rfl ⟨⟨y, rfl⟩, ⟨⟨y.val, Below.refl _ _⟩, rfl⟩⟩ rfl trivial
        simp only [Act.put, List.setIfInBounds_toArray, List.set_cons_zero, List.set_cons_succ] at hq
        subst hq
        refine inv_step (fun W hW hd K hK => ?_) (fun v2 aq hq => ?_)
        · obtain ⟨y, rfl⟩ := hW
          have ys := y.size
          have HK := Lib.hid hK
          obtain rfl : v1 = .pointer (some ⟨w.heap.size + 1, 4, none⟩) := hd 1 (by kernel_rfl)
          clear hd hK
          go_wp2_with fail
          exact HK.out _ _ rfl ⟨⟨y, rfl⟩, ⟨⟨y.val, Below.refl _ _⟩, rfl⟩⟩ rfl trivial
        simp only [Act.put, List.setIfInBounds_toArray, List.set_cons_zero, List.set_cons_succ] at hq
        subst hq
        refine inv_step (fun W hW hd K hK => ?_) (fun v3 aq hq => ?_)
        · obtain ⟨y, rfl⟩ := hW
          have ys := y.size
          have HK := Lib.hid hK
          obtain rfl : v2 = .slice (some ⟨b, off, none⟩) 2 kcap := hd 2 (by kernel_rfl)
          clear hd hK
          go_wp2_with fail
          exact HK.out _ _ rfl ⟨⟨y, rfl⟩, ⟨⟨y.val, Below.refl _ _⟩, rfl⟩⟩ rfl trivial
        simp only [Act.put, List.setIfInBounds_toArray, List.set_cons_zero, List.set_cons_succ] at hq
        subst hq
        refine inv_step (fun W hW hd K hK => ?_) (fun v4 aq hq => ?_)
        · obtain ⟨y, rfl⟩ := hW
          have ys := y.size
          have HK := Lib.hid hK
          obtain rfl : v3 = .pointer (some ⟨b, off, none⟩) := hd 3 (by kernel_rfl)
          clear hd hK
          go_wp2_with fail
          exact HK.out _ _ rfl ⟨⟨y, rfl⟩, ⟨⟨y.val, Below.refl _ _⟩, rfl⟩⟩ rfl trivial
        simp only [Act.put, List.setIfInBounds_toArray, List.set_cons_zero, List.set_cons_succ] at hq
        subst hq
        refine inv_step (fun W hW hd K hK => ?_) (fun v5 aq hq => ?_)
        · obtain ⟨y, rfl⟩ := hW
          have ys := y.size
          have HK := Lib.hid hK
          clear hd hK
          go_wp2_with fail
          exact HK.out _ _ rfl ⟨⟨y, rfl⟩, ⟨⟨y.val, Below.refl _ _⟩, rfl⟩⟩ rfl trivial
        simp only [Act.put, List.setIfInBounds_toArray, List.set_cons_zero, List.set_cons_succ] at hq
        subst hq
        refine inv_step (fun W hW hd K hK => ?_) (fun v6 aq hq => ?_)
        · obtain ⟨y, rfl⟩ := hW
          have ys := y.size
          have HK := Lib.hid hK
          clear hd hK
          go_wp2_with fail
          exact HK.out _ _ rfl ⟨⟨y, rfl⟩, ⟨⟨y.val, Below.refl _ _⟩, rfl⟩⟩ rfl trivial
        simp only [Act.put, List.setIfInBounds_toArray, List.set_cons_zero, List.set_cons_succ] at hq
        subst hq
        refine inv_step (fun W hW hd K hK => ?_) (fun v7 aq hq => ?_)
        · obtain ⟨y, rfl⟩ := hW
          have ys := y.size
          have HK := Lib.hid hK
          obtain rfl : v0 = .agg #[.slice ua un uc, .slice ra rn rc, .slice ba bn bc] := hd 0 (by kernel_rfl)
          obtain rfl : v4 = .agg #[.int .i64 k0k, .slice k0m.a k0m.len k0m.cap, .int .i64 k0v, .int .i64 k0b, .slice k0s.a k0s.len k0s.cap] := hd 4 (by kernel_rfl)
          obtain rfl : v5 = .slice la un lc := hd 5 (by kernel_rfl)
          obtain rfl : v6 = .slice (some ⟨b2, 0, none⟩) un un := hd 6 (by kernel_rfl)
          clear hd hK
          go_wp2_with (go_at_call 52; (with_reducible refine Calls.mono (CR0.out y.val y.below) ?_); rintro e _ ⟨rfl, ⟨z, rfl⟩⟩)
          exact HK.out _ _ rfl ⟨Cls.step y ⟨z, rfl⟩, ⟨z, rfl⟩⟩ rfl trivial
        simp only [Act.put, List.setIfInBounds_toArray, List.set_cons_zero, List.set_cons_succ] at hq
        subst hq
        refine inv_step (fun W hW hd K hK => ?_) (fun v8 aq hq => ?_)
        · obtain ⟨y, rfl⟩ := hW
          have ys := y.size
          have HK := Lib.hid hK
          obtain rfl : v7 = .bool false := hd 7 (by kernel_rfl)
          clear hd hK
          go_wp2_with fail
          exact HK.out _ _ rfl ⟨⟨y, rfl⟩, ⟨⟨y.val, Below.refl _ _⟩, rfl⟩⟩ rfl trivial
        simp only [Act.put, List.setIfInBounds_toArray, List.set_cons_zero, List.set_cons_succ] at hq
        subst hq
        refine inv_step (fun W hW hd K hK => ?_) (fun v9 aq hq => ?_)
        · obtain ⟨y, rfl⟩ := hW
          have ys := y.size
          have HK := Lib.hid hK
          obtain rfl : v8 = .bool false := hd 8 (by kernel_rfl)
          clear hd hK
          go_wp2_with fail
          exact HK.out _ _ rfl ⟨⟨y, rfl⟩, ⟨⟨y.val, Below.refl _ _⟩, rfl⟩⟩ rfl trivial
        simp only [Act.put, List.setIfInBounds_toArray, List.set_cons_zero, List.set_cons_succ] at hq
        subst hq
        refine inv_step (fun W hW hd K hK => ?_) (fun v10 aq hq => ?_)
        · obtain ⟨y, rfl⟩ := hW
          have ys := y.size
          have HK := Lib.hid hK
          obtain rfl : v8 = .bool false := hd 8 (by kernel_rfl)
          clear hd hK
          go_wp2_with fail
          exact HK.out _ _ rfl ⟨⟨y, rfl⟩, ⟨⟨y.val, Below.refl _ _⟩, rfl⟩⟩ rfl trivial
        simp only [Act.put, List.setIfInBounds_toArray, List.set_cons_zero, List.set_cons_succ] at hq
        subst hq
        refine inv_step (fun W hW hd K hK => ?_) (fun v11 aq hq => ?_)
        · obtain ⟨y, rfl⟩ := hW
          have ys := y.size
          have HK := Lib.hid hK
          obtain rfl : v8 = .bool false := hd 8 (by kernel_rfl)
          clear hd hK
          go_wp2_with fail
          exact HK.out _ _ rfl ⟨⟨y, rfl⟩, ⟨⟨y.val, Below.refl _ _⟩, rfl⟩⟩ rfl trivial
        simp only [Act.put, List.setIfInBounds_toArray, List.set_cons_zero, List.set_cons_succ] at hq
        subst hq
        refine inv_step (fun W hW hd K hK => ?_) (fun v12 aq hq => ?_)
        · obtain ⟨y, rfl⟩ := hW
          have ys := y.size
          have HK := Lib.hid hK
          obtain rfl : v8 = .bool false := hd 8 (by kernel_rfl)
          clear hd hK
          go_wp2_with fail
          exact HK.out _ _ rfl ⟨⟨y, rfl⟩, ⟨⟨y.val, Below.refl _ _⟩, rfl⟩⟩ rfl trivial
        simp only [Act.put, List.setIfInBounds_toArray, List.set_cons_zero, List.set_cons_succ] at hq
        subst hq
        refine inv_step (fun W hW hd K hK => ?_) (fun v13 aq hq => ?_)
        · obtain ⟨y, rfl⟩ := hW
          have ys := y.size
          have HK := Lib.hid hK
          obtain rfl : v8 = .bool false := hd 8 (by kernel_rfl)
          clear hd hK
          go_wp2_with fail
          exact HK.out _ _ rfl ⟨⟨y, rfl⟩, ⟨⟨y.val, Below.refl _ _⟩, rfl⟩⟩ rfl trivial
        simp only [Act.put, List.setIfInBounds_toArray, List.set_cons_zero, List.set_cons_succ] at hq
        subst hq
        refine inv_step (fun W hW hd K hK => ?_) (fun v14 aq hq => ?_)
        · obtain ⟨y, rfl⟩ := hW
          have ys := y.size
          have HK := Lib.hid hK
          obtain rfl : v8 = .bool false := hd 8 (by kernel_rfl)
          clear hd hK
          go_wp2_with fail
          exact HK.out _ _ rfl ⟨⟨y, rfl⟩, ⟨⟨y.val, Below.refl _ _⟩, rfl⟩⟩ rfl trivial
        simp only [Act.put, List.setIfInBounds_toArray, List.set_cons_zero, List.set_cons_succ] at hq
        subst hq
        refine inv_step (fun W hW hd K hK => ?_) (fun v15 aq hq => ?_)
        · obtain ⟨y, rfl⟩ := hW
          have ys := y.size
          have HK := Lib.hid hK
          obtain rfl : v8 = .bool false := hd 8 (by kernel_rfl)
          clear hd hK
          go_wp2_with fail
          exact HK.out _ _ rfl ⟨⟨y, rfl⟩, ⟨⟨y.val, Below.refl _ _⟩, rfl⟩⟩ rfl trivial
        simp only [Act.put, List.setIfInBounds_toArray, List.set_cons_zero, List.set_cons_succ] at hq
        subst hq
        refine inv_step (fun W hW hd K hK => ?_) (fun v16 aq hq => ?_)
        · obtain ⟨y, rfl⟩ := hW
          have ys := y.size
          have HK := Lib.hid hK
          obtain rfl : v8 = .bool false := hd 8 (by kernel_rfl)
          clear hd hK
          go_wp2_with fail
          exact HK.out _ _ rfl ⟨⟨y, rfl⟩, ⟨⟨y.val, Below.refl _ _⟩, rfl⟩⟩ rfl trivial
        simp only [Act.put, List.setIfInBounds_toArray, List.set_cons_zero, List.set_cons_succ] at hq
        subst hq
        refine inv_step (fun W hW hd K hK => ?_) (fun v17 aq hq => ?_)
        · obtain ⟨y, rfl⟩ := hW
          have ys := y.size
          have HK := Lib.hid hK
          obtain rfl : v8 = .bool false := hd 8 (by kernel_rfl)
          clear hd hK
          go_wp2_with fail
          exact HK.out _ _ rfl ⟨⟨y, rfl⟩, ⟨⟨y.val, Below.refl _ _⟩, rfl⟩⟩ rfl trivial
        simp only [Act.put, List.setIfInBounds_toArray, List.set_cons_zero, List.set_cons_succ] at hq
        subst hq
        refine inv_step (fun W hW hd K hK => ?_) (fun v18 aq hq => ?_)
        · obtain ⟨y, rfl⟩ := hW
          have ys := y.size
          have HK := Lib.hid hK
          obtain rfl : v17 = .bool false := hd 17 (by kernel_rfl)
          clear hd hK
          go_wp2_with fail
          exact HK.out _ _ rfl ⟨⟨y, rfl⟩, ⟨⟨y.val, Below.refl _ _⟩, rfl⟩⟩ rfl trivial
        simp only [Act.put, List.setIfInBounds_toArray, List.set_cons_zero, List.set_cons_succ] at hq
        subst hq
        refine inv_nil fun W hW hT hR => ?_
        obtain ⟨y, rfl⟩ := hW
        have ys := y.size
        obtain rfl : v18 = .bool false := hT 18 (by decide)
        clear hT hR
        go_wp2_with fail
        go_ret
        exact ⟨ret_bool (by simp), Cls.of (y.on HB7.out (by omega))⟩
end Go.Proofs.Ytilhhbjdcdediaa
