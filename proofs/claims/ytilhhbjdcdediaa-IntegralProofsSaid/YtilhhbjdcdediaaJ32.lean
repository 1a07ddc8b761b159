/-
  The reference's CheckLattice, where its Combine gives what the program's gives.
-/
import Derived.Test.YtilhhbjdcdediaaJ20
set_option linter.unusedVariables false
namespace Go.Proofs.Ytilhhbjdcdediaa
open Go Go.RowKit Go.Deep
set_option maxHeartbeats 8000000 in
set_option maxRecDepth 20000 in
theorem rLattice_calls (y : Sy) (a : Option Addr) (n c : Nat) (mn md : Nat → Int) (w : World) (RC : ∀ W, Below w.heap.size w W → Calls Try.prog 10 #[y.v, .slice a n c] W (CmbR y n mn md W)) :
    Calls Try.prog 13 #[y.v, .slice a n c] w fun e w' => e = .returned (.bool (laB y n mn md)) ∧ Cls w w' := by
  have C0 := Lib.hid RC
  clear RC
  unfold laB
  by_cases hce : cmE y n mn md = 0
  · have C1 : Hid (∀ W, Below w.heap.size w W → Calls Try.prog 10 #[y.v, .slice a n c] W fun e w' => ∃ (a : Option Addr) (c : Nat), e = .returned (.tuple #[.slice a y.U.len c, .agg #[.int .i64 (crN y n mn md), .int .i64 (crD y n mn md)], .int .i64 0]) ∧ FrsA w' ⟨a, y.U.len, c⟩ (cbN y n mn md) (cbD y n mn md) ∧ Cls W w') := Lib.hid fun W hb => (C0.out W hb).mono fun e w' hh => hh.yes hce
    rw [hce]
    obtain ⟨p, hp⟩ : ∃ p : Nat → Bool, (fun k => cbD y n mn md k != 1) = p := ⟨_, rfl⟩
    have EX : Hid (∀ i, (cbD y n mn md i != 1) = p i) := Lib.hid fun i => congrFun hp i
    rw [hp]
    unfold Sy.v at *
    clear C0 hce hp
    generalize cbN y n mn md = fN at *
    generalize crN y n mn md = rN at *
    generalize cbD y n mn md = fD at *
    generalize crD y n mn md = rD at *
    generalize y.U.a = ua at *
    generalize y.U.len = un at *
    generalize y.U.cap = uc at *
    generalize y.R.a = ra at *
    generalize y.R.len = rn at *
    generalize y.R.cap = rc at *
    generalize y.B.a = ba at *
    generalize y.B.len = bn at *
    generalize y.B.cap = bc at *
    go_enter Try.func13, Try.ntmps13
    go_wp2_with (go_at_call 10; (with_reducible refine Calls.mono (C1.out _ ?_) ?_); (focus (repeat first | with_reducible exact Below.refl _ _ | with_reducible refine Below.setCell ?_ (by first | omega | (simp; done) | (simp; omega)) _ | with_reducible refine Below.alloc ?_ (by first | omega | (simp; done) | (simp; omega)) _ | with_reducible refine Below.drew ?_ | with_reducible refine Ext.on _ ?_ (by first | omega | (simp; done) | (simp; omega)))); rintro e _ ⟨sa, sc, rfl, hf, ⟨x, rfl⟩⟩; have xs := x.size; (try simp at xs); have HF := Lib.hid hf; clear hf)
    have hfl := HF.out.1
    have hfm := HF.out.2.1
    unfold maxLen at hfm
    simp only at hfl hfm
    have HX := Lib.hid HF.out.2.2
    go_loopw [8] (fun i wr => ∃ j : Nat, j ≤ un ∧ i = .int .i64 j ∧ Hid (fstI p 0 un = fstI p j (un - j)) ∧ Cls (x.val.alloc (.cells #[.int .i64 rN, .int .i64 rD] 34)) wr) (fun i _ => un - (intOf i).toNat)
    case atStart => exact ⟨0, Nat.zero_le _, rfl, Lib.hid rfl, Cls.of (Below.refl _ _)⟩
    case round =>
      obtain ⟨j, hj, rfl, HE, z, rfl⟩ := hrel
      have zs := z.size
      simp at zs
      by_cases hltj : j < un
      · obtain ⟨b, off, ha, hb2, hc⟩ := HX.out.resolve_left (by show ¬ un = 0; omega)
        have ha' : sa = some ⟨b, off, none⟩ := ha
        subst ha'
        obtain ⟨r0, r1⟩ := hc j hltj
        have q1 := (z.below.cell (p := ⟨b, off + j * 2 + 1, none⟩) (by simp; omega)).trans (((Below.refl x.val.heap.size x.val).alloc (Nat.le_refl _) _).cell (p := ⟨b, off + j * 2 + 1, none⟩) hb2 |>.trans r1)
        have hbx : b < z.val.heap.size := by omega
        have EXj := EX.out j
        clear hc r0 r1 ha HX HF EX
        generalize fD j = v at *
        cases hbb : p j
        · rw [hbb] at EXj
          have HN : Hid (fstI p 0 un = fstI p (j + 1) (un - (j + 1))) := Lib.hid (by rw [HE.out, show un - j = (un - (j + 1)) + 1 by omega, fstI_go hbb])
          clear hbb HE
          go_wp2_with fail
          go_roundw
          case rel => exact ⟨j + 1, by omega, by go_num, HN, z, rfl⟩
          case measure => simp [intOf]; omega
        · rw [hbb] at EXj
          have HV : Hid (anyB p un = true) := Lib.hid (anyB_iff.2 ⟨j, hltj, hbb⟩)
          clear hbb HE
          go_wp2_with fail
          go_ret
          refine ⟨ret_bool (by rw [HV.out]; simp), Cls.of ?_⟩
          repeat first | with_reducible exact Below.refl _ _ | with_reducible refine Below.setCell ?_ (by first | omega | (simp; done) | (simp; omega)) _ | with_reducible refine Below.alloc ?_ (by first | omega | (simp; done) | (simp; omega)) _ | with_reducible refine Below.drew ?_ | with_reducible refine Ext.on _ ?_ (by first | omega | (simp; done) | (simp; omega))
      · have HV : Hid (anyB p un = false) := Lib.hid (by unfold anyB; rw [HE.out, show un - j = 0 by omega]; rfl)
        have hb0 := (z.below.block x.val.heap.size (by simp)).trans (heap_alloc_new x.val _)
        obtain ⟨hz0, _, _, e0, e1⟩ := two_n hb0
        clear hb0 HE
        go_wp2_with fail
        go_ret
        refine ⟨ret_bool (by rw [HV.out]; simp), Cls.of ?_⟩
        repeat first | with_reducible exact Below.refl _ _ | with_reducible refine Below.setCell ?_ (by first | omega | (simp; done) | (simp; omega)) _ | with_reducible refine Below.alloc ?_ (by first | omega | (simp; done) | (simp; omega)) _ | with_reducible refine Below.drew ?_ | with_reducible refine Ext.on _ ?_ (by first | omega | (simp; done) | (simp; omega))
  · have C1 : Hid (∀ W, Below w.heap.size w W → Calls Try.prog 10 #[y.v, .slice a n c] W fun e w' => e = .returned (.tuple #[.slice none 0 0, .agg #[.int .i64 0, .int .i64 0], .int .i64 (cmE y n mn md)]) ∧ Cls W w') := Lib.hid fun W hb => (C0.out W hb).mono fun e w' hh => hh.no hce
    have d0 : (cmE y n mn md == 0) = false := by simpa using hce
    have d1 : (cmE y n mn md != 0) = true := by simpa using hce
    rw [d0]
    unfold Sy.v at *
    clear C0 hce
    generalize cmE y n mn md = ce at *
    generalize y.U.a = ua at *
    generalize y.U.len = un at *
    generalize y.U.cap = uc at *
    generalize y.R.a = ra at *
    generalize y.R.len = rn at *
    generalize y.R.cap = rc at *
    generalize y.B.a = ba at *
    generalize y.B.len = bn at *
    generalize y.B.cap = bc at *
    go_enter Try.func13, Try.ntmps13
    go_wp2_with (go_at_call 10; (with_reducible refine Calls.mono (C1.out _ ?_) ?_); (focus (repeat first | with_reducible exact Below.refl _ _ | with_reducible refine Below.setCell ?_ (by first | omega | (simp; done) | (simp; omega)) _ | with_reducible refine Below.alloc ?_ (by first | omega | (simp; done) | (simp; omega)) _ | with_reducible refine Below.drew ?_ | with_reducible refine Ext.on _ ?_ (by first | omega | (simp; done) | (simp; omega)))); rintro e _ ⟨rfl, ⟨x, rfl⟩⟩; have xs := x.size; (try simp at xs))
    go_ret
    refine ⟨rfl, Cls.of ?_⟩
    repeat first | with_reducible exact Below.refl _ _ | with_reducible refine Below.setCell ?_ (by first | omega | (simp; done) | (simp; omega)) _ | with_reducible refine Below.alloc ?_ (by first | omega | (simp; done) | (simp; omega)) _ | with_reducible refine Below.drew ?_ | with_reducible refine Ext.on _ ?_ (by first | omega | (simp; done) | (simp; omega))
end Go.Proofs.Ytilhhbjdcdediaa
