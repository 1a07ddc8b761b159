/-
  The law of combinations of systems that the tape makes, walked.
-/
import Derived.Test.YthbdkhmgopahbaaJ35
import Derived.Test.YthbdkhmgopahbaaJ28
import Derived.Test.YthbdkhmgopahbaaJ36
import Derived.WalkKit
set_option linter.unusedVariables false
namespace Go.Proofs.Ythbdkhmgopahbaa
open Go Go.RowKit Go.Deep
set_option maxHeartbeats 64000000 in
set_option maxRecDepth 20000 in
theorem linearCombines_walk (ta : Option Addr) (tn tc : Nat) (s : Sl) (mn md : Nat → Int) (l : Sl) (fl : Nat → Int) (w : World) (ht : NumsA w ta tn) (hx : FrsA w s mn md ∧ ∀ i, i < s.len → In64 (mn i) ∧ In64 (md i)) (hl : IntsA w l fl ∧ ∀ i, i < l.len → In64 (fl i)) :
    Calls Try.prog 3 #[.slice ta tn tc, .slice s.a s.len s.cap, .slice l.a l.len l.cap] w fun e w' => e = .returned (.bool true) ∧ Below w.heap.size w w' := by
  obtain ⟨a, n, c⟩ := s
  obtain ⟨la, ln, lc⟩ := l
  simp only at hx hl ⊢
  obtain ⟨hx, hi⟩ := hx
  obtain ⟨hl, _⟩ := hl
  have hnc := hx.1
  have hcm := hx.2.1
  have lnc := hl.1
  have lcm := hl.2.1
  have htm := ht.1
  unfold maxLen at hcm lcm htm
  simp only at hnc hcm lnc lcm
  have HX := Lib.hid hx
  have HI := Lib.hid hi
  have HL := Lib.hid hl
  have HT := Lib.hid (tape_new (cap := tc) ht)
  clear hx hi hl ht
  obtain ⟨i0, hi, hz0, hz1, hz2⟩ := info_parts infoFr
  by_cases h1 : n ≤ 12
  case neg =>
    have d0 : decide ((12 : Int) < ((n : Nat) : Int)) = true := decide_eq_true (by omega)
    go_enter Try.func3, Try.ntmps3
    go_wp2_with fail
    all_goals
      go_ret
      exact ⟨rfl, Below.refl _ _⟩
  by_cases h2 : ln ≤ 12
  case neg =>
    have d0 : decide ((12 : Int) < ((n : Nat) : Int)) = false := decide_eq_false (by omega)
    have d1 : decide ((12 : Int) < ((ln : Nat) : Int)) = true := decide_eq_true (by omega)
    go_enter Try.func3, Try.ntmps3
    go_wp2_with fail
    all_goals
      go_ret
      exact ⟨rfl, Below.refl _ _⟩
  have d0 : decide ((12 : Int) < ((n : Nat) : Int)) = false := decide_eq_false (by omega)
  have d1 : decide ((12 : Int) < ((ln : Nat) : Int)) = false := decide_eq_false (by omega)
  go_enter Try.func3, Try.ntmps3
  go_wp2_with (go_at_call 7; ((with_reducible refine (System_use w.heap.size 0 _ HT.out (by omega)).mono ?_); rintro e1 w1 hq; obtain ⟨sy, vn, K, rfl, hv1, hv2, hK, hsys, z0, rfl⟩ := hq; have z0s := z0.size; have HS := Lib.hid hsys; clear hsys))
  have hT : w.heap.size < z0.val.heap.size := by simp at z0s; omega
  obtain ⟨Wb, hWb⟩ : ∃ Wb, Wb = z0.val.alloc (.cells #[.slice sy.U.a sy.U.len sy.U.cap, .slice sy.R.a sy.R.len sy.R.cap, .slice sy.B.a sy.B.len sy.B.cap] 30) := ⟨_, rfl⟩
  rw [← hWb]
  have hbs : z0.val.heap.size + 1 = Wb.heap.size := by rw [hWb]; simp
  rw [hbs]
  have hb8 : Wb.heap[z0.val.heap.size]? = some (.cells #[.slice sy.U.a sy.U.len sy.U.cap, .slice sy.R.a sy.R.len sy.R.cap, .slice sy.B.a sy.B.len sy.B.cap] 30) := by rw [hWb]; exact heap_alloc_new _ _
  have hS : SysT w.heap.size vn K 9 1000000000 Wb sy := by rw [hWb]; exact HS.out.tp ((Tp.refl _ _).alloc _)
  have htp : Tp w.heap.size w Wb := by rw [hWb]; exact (z0.on ((Tp.refl _ _).alloc _)).alloc _
  have htape : TapeAt w.heap.size 30000 Wb := by rw [hWb]; exact (z0.at_.mono (by omega)).later ((Below.refl _ _).alloc (Nat.le_refl _) _)
  clear HS
  have HM := Lib.hid (made_none Wb htape)
  have HB8 := Lib.hid hb8
  have HS := Lib.hid hS
  have HTP := Lib.hid htp
  have HKN := Lib.hid hS.kn
  have HUN := Lib.hid hS.un
  have hb8s : z0.val.heap.size < Wb.heap.size := by omega
  clear hWb hb8 hS htp htape hbs z0s HT
  generalize z0.val.heap.size = b8 at *
  clear z0
  go_loopw [9, 10] (fun v i wr => ∃ (j : Nat) (f g : Nat → Int), i = .int .i64 j ∧ j ≤ K ∧ MadeS w.heap.size (40000 + 2 * j) j v f g Wb wr) (fun _ i _ => K - (intOf i).toNat)
  case atStart => exact ⟨0, _, _, rfl, by omega, HM.out.more (by omega)⟩
  case round =>
    clear HM
    obtain ⟨j, f, g, rfl, hj, hm⟩ := hrel
    have HM := Lib.hid hm
    clear hm
    have hbox2 : wr.heap[b8]? = some (.cells #[.slice sy.U.a sy.U.len sy.U.cap, .slice sy.R.a sy.R.len sy.R.cap, .slice sy.B.a sy.B.len sy.B.cap] 30) := (HM.out.tp.block _ hb8s (by omega)).trans HB8.out
    obtain ⟨bs2, f0, f1, f2, c0, c1, c2⟩ := three_z hbox2
    have HBX2 := Lib.hid hbox2
    clear hbox2
    by_cases hlt : j < K
    · have hlt2 : j < sy.R.len := by have := HKN.out; omega
      have d3 : decide ((j : Int) < (sy.R.len : Int)) = true := decide_eq_true (by omega)
      go_wp2_with (first | (go_at_call 8; ((with_reducible refine (Next_calls w.heap.size (40000 + 2 * j) _ _ HM.out.tape (by omega) (by omega) (by omega)).mono ?_); rintro e1 w1 hq; obtain ⟨r1, rfl, hr1, z1, rfl⟩ := hq; have z1s := z1.size; have hr2 : r1 ≤ 8 := (by omega); have HM := Lib.hid (HM.out.next z1))) | (go_at_call 8; ((with_reducible refine (Next_calls w.heap.size (40000 + 2 * j + 1) _ _ (HM.out.tape.later (by repeat first | with_reducible exact Below.refl _ _ | with_reducible refine Below.setCell ?_ (by first | omega | (simp; done) | (simp; omega)) _ | with_reducible refine Below.alloc ?_ (by first | omega | (simp; done) | (simp; omega)) _ | with_reducible refine Below.drew ?_ | with_reducible refine Ext.on _ ?_ (by first | omega | (simp; done) | (simp; omega)))) (by omega) (by omega) (by omega)).mono ?_); rintro e1 w1 hq; obtain ⟨r3, rfl, hr3, z3, rfl⟩ := hq; have z3s := z3.size; have HM3 := Lib.hid (HM.out.step (z3.on (by repeat first | with_reducible exact Tp.refl _ _ | with_reducible refine Tp.setCell ?_ (by first | (left; omega) | (left; simp; done) | (left; simp; omega)) _ | with_reducible refine Tp.alloc ?_ _ | with_reducible refine Tp.drew ?_ | with_reducible refine Lat.on _ ?_ | with_reducible refine Tp.ext ?_ _)) z3.at_); have hbf : z3.val.heap[z1.val.heap.size]? = some (.cells #[.int .i64 ((r1 : Int) - 4), .int .i64 1] 34) := ((z3.tp.block _ (by simp) (by have := HM.out.tape.lt; omega)).trans (heap_alloc_new _ _)); obtain ⟨bf1, g0, g1, k0, k1⟩ := two_zz hbf; have HMS := Lib.hid (HM3.out.set (b := z1.val.heap.size) (o := 1) (u := .int .i64 2) HM.out.tp.size (fun k hk => by have := (HM.out.O.lt k hk).2; omega)))) | (at_builtin; (refine wpList_append_own_at _ rfl _ _ 23 rfl Wb.heap.size 34 i0 (.agg #[.int .i64 0, .int .i64 0]) 2 16 Try.underlying23 hi hz0 hz1 hz2 rfl (by decide) _ j (flatF f g j) rfl (HM3.out.below ((Below.refl _ _).alloc (Nat.le_refl _) _)).O ⟨z3.val.heap.size, 0, none⟩ 1 1 [.int .i64 ((r1 : Int) - 4), .int .i64 1] rfl rfl (cells_new' z3.val [.int .i64 ((r1 : Int) - 4), .int .i64 1] 34) (one_f _ _) (by unfold maxLen; omega) (by omega) (by have := HM3.out.tp.size; simp at this ⊢; omega) ?_); intro v4 w4 hown4 hg4 _ hat4; have HM4 := Lib.hid ((HM3.out.below ((Below.refl _ _).alloc (Nat.le_refl _) _)).push hown4 hg4 (by omega)); obtain ⟨g4, cp4, hv4⟩ := own_slice_z hown4; subst hv4; clear hown4 hg4 hat4) | (at_builtin; (refine wpList_append_own_at _ rfl _ _ 23 rfl Wb.heap.size 34 i0 (.agg #[.int .i64 0, .int .i64 0]) 2 16 Try.underlying23 hi hz0 hz1 hz2 rfl (by decide) _ j (flatF f g j) rfl (HMS.out.below ((Below.refl _ _).alloc (Nat.le_refl _) _)).O ⟨z3.val.heap.size, 0, none⟩ 1 1 [.int .i64 ((r1 : Int) - 4), .int .i64 2] rfl rfl (by have qq := cells_new' (z3.val.setCell ⟨z1.val.heap.size, 1, none⟩ (.int .i64 2)) [.int .i64 ((r1 : Int) - 4), .int .i64 2] 34; have ee : (z3.val.setCell ⟨z1.val.heap.size, 1, none⟩ (.int .i64 2)).heap.size = z3.val.heap.size := (by simp [World.setCell]); rw [ee] at qq; exact qq) (one_f _ _) (by unfold maxLen; omega) (by omega) (by have := HMS.out.tp.size; simp at this ⊢; omega) ?_); intro v4 w4 hown4 hg4 _ hat4; have HM4 := Lib.hid ((HMS.out.below ((Below.refl _ _).alloc (Nat.le_refl _) _)).push hown4 hg4 (by omega)); obtain ⟨g4, cp4, hv4⟩ := own_slice_z hown4; subst hv4; clear hown4 hg4 hat4))
      all_goals first | (exfalso; omega) | skip
      all_goals
        go_roundw
        case rel => exact ⟨j + 1, _, _, by go_num, by omega, HM4.out.more (by omega)⟩
        case measure => simp [intOf]; omega
    · obtain rfl : K = j := by omega
      have d3 : decide ((K : Int) < (sy.R.len : Int)) = false := decide_eq_false (by have := HKN.out; omega)
      have d4 : ¬ K < sy.R.len := by have := HKN.out; omega
      obtain ⟨s2, rfl, hsl, hsf, _⟩ := OutF.frs HM.out.O
      have HSL := Lib.hid hsl
      have hfb := HM.out.fb
      have hW1 : ∀ W1 : World, W1 = wr.alloc (.cells #[.slice a n c, .slice s2.a s2.len s2.cap] 23) → Below w.heap.size w W1 ∧ SysA W1 sy ∧ W1.heap[b8]? = some (.cells #[.slice sy.U.a sy.U.len sy.U.cap, .slice sy.R.a sy.R.len sy.R.cap, .slice sy.B.a sy.B.len sy.B.cap] 30) ∧ b8 < W1.heap.size ∧ wr.heap.size < W1.heap.size ∧ W1.heap[wr.heap.size]? = some (.cells #[.slice a n c, .slice s2.a s2.len s2.cap] 23) ∧ IntsA W1 ⟨la, ln, lc⟩ fl ∧ TwoA W1 wr.heap.size := by
        rintro W1 rfl
        have hb0 : Below w.heap.size w wr := (HTP.out.trans HM.out.tp).toBelow (Nat.le_refl _) (Nat.le_refl _)
        have hb1 : Below wr.heap.size wr (wr.alloc (.cells #[.slice a n c, .slice s2.a s2.len s2.cap] 23)) := (Below.refl _ _).alloc (Nat.le_refl _) _
        have hb : Below w.heap.size w (wr.alloc (.cells #[.slice a n c, .slice s2.a s2.len s2.cap] 23)) := hb0.trans (hb1.mono hb0.size)
        refine ⟨hb, (HS.out.tp HM.out.tp).sys.later hb1, (hb1.block _ (Array.getElem?_eq_some_iff.1 HBX2.out).1).trans HBX2.out, by simp; omega, by simp, heap_alloc_new _ _, HL.out.later hb, ?_⟩
        refine two_a (heap_alloc_new _ _) (HX.out.later hb) h1 HI.out (hsf.later hb1) (by rw [hsl]; omega) fun i hi => ?_
        obtain ⟨q1, q2, q3, q4⟩ := hfb i (by rw [← hsl]; exact hi)
        exact ⟨by unfold In64; omega, by unfold In64; omega⟩
      have HW1 := Lib.hid hW1
      clear hW1 hsl hsf hfb HX HI HL HS HTP HB8 HM HBX2 f0 f1 f2 hz0 hz1 hz2 hi
      go_wp2_with fail
      all_goals first | (exfalso; omega) | skip
      obtain ⟨hbW, hS1, hbx1, hb81, hbt1, htw1, hl1, tw1⟩ := HW1.out _ rfl
      generalize wr.heap.size = bt at hbt1 htw1 tw1 ⊢
      generalize wr.alloc _ = W1 at hbW hS1 hbx1 hb81 hbt1 htw1 hl1 tw1 ⊢
      have D2 := Lib.hid (fun (s : Sl) (mn md : Nat → Int) (hf : FrsA W1 s mn md) (hi : ∀ i, i < s.len → In64 (mn i) ∧ In64 (md i)) (hn : s.len ≤ 12) (W : World) (hb : Below W1.heap.size W1 W) => (lCombine_calls sy s.a s.len s.cap mn md W (hS1.later hb) (hf.later hb) hi (by omega)).mono fun e w' hh => CmbR.frs2 hh)
      have D3 := Lib.hid (fun (s : Sl) (mn md : Nat → Int) (hf : FrsA W1 s mn md) (hi : ∀ i, i < s.len → In64 (mn i) ∧ In64 (md i)) (hn : s.len ≤ 12) (W : World) (hb : Below W1.heap.size W1 W) => (rCombine_calls sy s.a s.len s.cap mn md W (hS1.later hb) (hf.later hb) hi (by omega)).mono fun e w' hh => CmbR.frs2 hh)
      have hun : sy.U.len ≤ 5 := by have := HUN.out; omega
      have D4 := Lib.hid (fun (s : Sl) (mn md : Nat → Int) (hf : FrsA W1 s mn md) (hi : ∀ i, i < s.len → In64 (mn i) ∧ In64 (md i)) (hn : s.len ≤ 12) (la : Option Addr) (ln lc : Nat) (fl : Nat → Int) (W0 : World) (hb0 : Below W1.heap.size W1 W0) (hl : IntsA W0 ⟨la, ln, lc⟩ fl) (W : World) (hb : Below W0.heap.size W0 W) => lCheckBounds_calls sy la ln lc fl sy.U.a sy.U.len sy.U.cap sy.up s.a s.len s.cap mn md W ((hS1.later hb0).later hb) (hl.later hb) ((hS1.later hb0).later hb).U ((hf.later hb0).later hb) hi (by omega) (by omega))
      have D5 := Lib.hid (fun (s : Sl) (mn md : Nat → Int) (hf : FrsA W1 s mn md) (hi : ∀ i, i < s.len → In64 (mn i) ∧ In64 (md i)) (hn : s.len ≤ 12) (la : Option Addr) (ln lc : Nat) (fl : Nat → Int) (W0 : World) (hb0 : Below W1.heap.size W1 W0) (hl : IntsA W0 ⟨la, ln, lc⟩ fl) (W : World) (hb : Below W0.heap.size W0 W) => rCheckBounds_calls sy la ln lc fl sy.U.a sy.U.len sy.U.cap sy.up s.a s.len s.cap mn md W ((hS1.later hb0).later hb) (hl.later hb) ((hS1.later hb0).later hb).U ((hf.later hb0).later hb) hi (by omega) (by omega))
      have D6 := Lib.hid (fun (s : Sl) (mn md : Nat → Int) (hf : FrsA W1 s mn md) (hi : ∀ i, i < s.len → In64 (mn i) ∧ In64 (md i)) (hn : s.len ≤ 12) (W : World) (hb : Below W1.heap.size W1 W) => lLattice_calls sy s.a s.len s.cap mn md W (hS1.later hb) (hf.later hb) hi (by omega))
      have D7 := Lib.hid (fun (s : Sl) (mn md : Nat → Int) (hf : FrsA W1 s mn md) (hi : ∀ i, i < s.len → In64 (mn i) ∧ In64 (md i)) (hn : s.len ≤ 12) (W : World) (hb : Below W1.heap.size W1 W) => rLattice_calls sy s.a s.len s.cap mn md W (fun W' hb' => rCombine_calls sy s.a s.len s.cap mn md W' (hS1.later (hb.trans (hb'.mono hb.size))) (hf.later (hb.trans (hb'.mono hb.size))) hi (by omega)))
      have TW := Lib.hid tw1
      have HBX := Lib.hid hbx1
      have HBW := Lib.hid hbW
      have HL1 := Lib.hid hl1
      clear HW1 HSL HKN HUN hbx1 hbW hl1 tw1 htw1 hS1 c0 c1 c2 d0 d1 d3 d4 hlt hj
      unfold Sy.v at *
      generalize sy.U.a = ua at *
      generalize sy.U.len = un at *
      generalize sy.U.cap = uc at *
      generalize sy.R.a = ra at *
      generalize sy.R.len = rn at *
      generalize sy.R.cap = rc at *
      generalize sy.B.a = ba at *
      generalize sy.B.len = bn at *
      generalize sy.B.cap = bc at *
      go_loopw [13] (fun i wr => ∃ j : Nat, i = .int .i64 j ∧ j ≤ 2 ∧ ∃ x : Ext W1, wr = x.val) (fun i _ => 2 - (intOf i).toNat)
      case atStart => exact ⟨0, rfl, by omega, ⟨W1, Below.refl _ _⟩, rfl⟩
      case round =>
        obtain ⟨j, rfl, hj, x, rfl⟩ := hrel
        have xs := x.size
        by_cases hlt : j < 2
        · have d5 : decide ((j : Int) < 2) = true := decide_eq_true (by omega)
          obtain ⟨s, mn, md, hc, hf, hn, hi⟩ := TW.out j hlt
          have E2 := Lib.hid (D2.out s mn md hf hi hn)
          have E3 := Lib.hid (D3.out s mn md hf hi hn)
          have E4 := Lib.hid (D4.out s mn md hf hi hn)
          have E5 := Lib.hid (D5.out s mn md hf hi hn)
          have E6 := Lib.hid (D6.out s mn md hf hi hn)
          have E7 := Lib.hid (D7.out s mn md hf hi hn)
          clear D2 D3 D4 D5 D6 D7 TW
          obtain ⟨sa, sn, sc⟩ := s
          have hsc := hf.1
          have hsm := hf.2.1
          unfold maxLen at hsm
          simp only at hc E2 E3 E4 E5 E6 E7 hsc hsm hn
          obtain ⟨L, hL⟩ : ∃ L, (if cmE sy sn mn md = 0 then un else 0) = L := ⟨_, rfl⟩
          rw [hL] at E2 E3
          clear hL hf hi
          generalize cmE sy sn mn md = ce at E2 E3
          generalize cmN sy sn mn md = cn at E2 E3
          generalize cmD sy sn mn md = cd at E2 E3
          generalize cbN sy sn mn md = cF at E2 E3
          generalize cbD sy sn mn md = cG at E2 E3
          generalize laB sy sn mn md = lb at E6 E7
          have hbx := (x.below.block b8 hb81).trans HBX.out
          obtain ⟨hx0, c0, c1, c2⟩ := three_s hbx
          have hct : x.val.cell? ⟨bt, j, none⟩ = some (.slice sa sn sc) := (x.cell _ hbt1).trans hc
          have hx1 : bt < x.val.heap.size := by omega
          clear hbx
          go_upto_region 17 with fail
          go_cut [14, 15, 16] from 63 to 161 (fun va vb vc wx => ∃ (s9 : Sl) (B : Nat), va = .slice s9.a s9.len s9.cap ∧ vb = .pointer (some ⟨B, 0, none⟩) ∧ vc = .int .i64 ce ∧ s9.len = L ∧ FrsA wx s9 cF cG ∧ wx.heap[B]? = some (.cells #[.int .i64 cn, .int .i64 cd] 34) ∧ Cls x.val wx)
          case first =>
            refine FA.wp_region_float (C := fun w' => ∃ y : Ext x.val, w' = y.val) 10 12 [5] _ (fun y => ⟨y, rfl⟩) (by kernel_rfl) (by kernel_rfl) (by kernel_rfl) rfl ?_
            intro y0
            have y0s := y0.size
            change FA.lexF _ _ _ _ _ _ [0, 1, 2, 3, 4, 5, 6, 7, 8, 9, 11, 12, 13] _ _
            repeat (refine FA.lexF_calm_l rfl rfl rfl ?_; intro KK hKK; go_big_quiet_step (fail); refine wpQuiet_nil ?_; refine hKK _ ?_; clear hKK KK)
            refine FA.lexF_rival_l rfl rfl rfl rfl rfl ?_ ?_
            · intro KK hKK
              go_wp2_with fail
              refine hKK _ _ (.inr (Cls.of (by repeat first | with_reducible exact Below.refl _ _ | with_reducible refine Below.setCell ?_ (by first | omega | (simp; done) | (simp; omega)) _ | with_reducible refine Below.alloc ?_ (by first | omega | (simp; done) | (simp; omega)) _ | with_reducible refine Below.drew ?_ | with_reducible refine Ext.on _ ?_ (by first | omega | (simp; done) | (simp; omega))))) ?_
              clear hKK KK
              refine FA.lexI_free_l rfl rfl ?_
              intro KK hKK
              go_wp2_with (go_at_call 9; (with_reducible refine Calls.mono (E2.out _ ?_) ?_); (focus (repeat first | with_reducible exact Below.refl _ _ | with_reducible refine Below.setCell ?_ (by first | omega | (simp; done) | (simp; omega)) _ | with_reducible refine Below.alloc ?_ (by first | omega | (simp; done) | (simp; omega)) _ | with_reducible refine Below.drew ?_ | with_reducible refine Ext.on _ ?_ (by first | omega | (simp; done) | (simp; omega)))); rintro e _ ⟨s9, rfl, hl9, hf9, hg9, ⟨z, rfl⟩⟩; have zs := z.size; (try simp at zs); have HF9 := Lib.hid hf9; have HL9 := Lib.hid hl9; have HG9 := Lib.hid hg9; clear hf9 hl9 hg9; have zb : z.val.heap[y0.val.heap.size]? = some (.cells #[.int .i64 0, .int .i64 0] 34) := (z.below.block _ (by simp)).trans (heap_alloc_new _ _); obtain ⟨zb0, zb1, zb2, _, _⟩ := two_n zb)
              refine hKK _ _ (.inr (Cls.of (by repeat first | with_reducible exact Below.refl _ _ | with_reducible refine Below.setCell ?_ (by first | omega | (simp; done) | (simp; omega)) _ | with_reducible refine Below.alloc ?_ (by first | omega | (simp; done) | (simp; omega)) _ | with_reducible refine Below.drew ?_ | with_reducible refine Ext.on _ ?_ (by first | omega | (simp; done) | (simp; omega))))) ?_
              clear hKK KK
              repeat (refine FA.lexI_calm_l rfl rfl ?_; intro KK hKK; go_big_quiet_step (fail); refine wpQuiet_nil ?_; refine hKK _ ?_; clear hKK KK)
              refine FA.lexI_free_l rfl rfl ?_
              intro KK hKK
              go_wp2_with fail
              refine hKK _ _ (.inr (Cls.of (by repeat first | with_reducible exact Below.refl _ _ | with_reducible refine Below.setCell ?_ (by first | omega | (simp; done) | (simp; omega)) _ | with_reducible refine Below.alloc ?_ (by first | omega | (simp; done) | (simp; omega)) _ | with_reducible refine Below.drew ?_ | with_reducible refine Ext.on _ ?_ (by first | omega | (simp; done) | (simp; omega))))) ?_
              clear hKK KK
              repeat (refine FA.lexI_calm_l rfl rfl ?_; intro KK hKK; go_big_quiet_step (fail); refine wpQuiet_nil ?_; refine hKK _ ?_; clear hKK KK)
              refine FA.lexI_done ?_
              go_wp2_with fail
              go_meet
              case rel => exact ⟨s9, y0.val.heap.size, rfl, rfl, rfl, HL9.out, HF9.out.past HL9.out zb HG9.out _ _, by rw [heap_setCell_same _ _ _ _ _ _ (heap_setCell_same _ _ _ _ _ _ zb)]; rfl, Cls.of (by repeat first | with_reducible exact Below.refl _ _ | with_reducible refine Below.setCell ?_ (by first | omega | (simp; done) | (simp; omega)) _ | with_reducible refine Below.alloc ?_ (by first | omega | (simp; done) | (simp; omega)) _ | with_reducible refine Below.drew ?_ | with_reducible refine Ext.on _ ?_ (by first | omega | (simp; done) | (simp; omega)))⟩
            · intro KK hKK
              go_wp2_with (go_at_call 9; (with_reducible refine Calls.mono (E2.out _ ?_) ?_); (focus (repeat first | with_reducible exact Below.refl _ _ | with_reducible refine Below.setCell ?_ (by first | omega | (simp; done) | (simp; omega)) _ | with_reducible refine Below.alloc ?_ (by first | omega | (simp; done) | (simp; omega)) _ | with_reducible refine Below.drew ?_ | with_reducible refine Ext.on _ ?_ (by first | omega | (simp; done) | (simp; omega)))); rintro e _ ⟨s9, rfl, hl9, hf9, hg9, ⟨z, rfl⟩⟩; have zs := z.size; (try simp at zs); have HF9 := Lib.hid hf9; have HL9 := Lib.hid hl9; have HG9 := Lib.hid hg9; clear hf9 hl9 hg9)
              refine hKK _ _ (.inr (Cls.of (by repeat first | with_reducible exact Below.refl _ _ | with_reducible refine Below.setCell ?_ (by first | omega | (simp; done) | (simp; omega)) _ | with_reducible refine Below.alloc ?_ (by first | omega | (simp; done) | (simp; omega)) _ | with_reducible refine Below.drew ?_ | with_reducible refine Ext.on _ ?_ (by first | omega | (simp; done) | (simp; omega))))) ?_
              clear hKK KK
              repeat (refine FA.lexF_calm_l rfl rfl rfl ?_; intro KK hKK; go_big_quiet_step (fail); refine wpQuiet_nil ?_; refine hKK _ ?_; clear hKK KK)
              refine FA.lexF_now_l rfl rfl rfl rfl rfl ?_
              intro KK hKK
              go_wp2_with fail
              refine hKK _ _ (.inr (Cls.of (by repeat first | with_reducible exact Below.refl _ _ | with_reducible refine Below.setCell ?_ (by first | omega | (simp; done) | (simp; omega)) _ | with_reducible refine Below.alloc ?_ (by first | omega | (simp; done) | (simp; omega)) _ | with_reducible refine Below.drew ?_ | with_reducible refine Ext.on _ ?_ (by first | omega | (simp; done) | (simp; omega))))) ?_
              clear hKK KK
              refine FA.lexI_free_l rfl rfl ?_
              intro KK hKK
              go_wp2_with fail
              refine hKK _ _ (.inr (Cls.of (by repeat first | with_reducible exact Below.refl _ _ | with_reducible refine Below.setCell ?_ (by first | omega | (simp; done) | (simp; omega)) _ | with_reducible refine Below.alloc ?_ (by first | omega | (simp; done) | (simp; omega)) _ | with_reducible refine Below.drew ?_ | with_reducible refine Ext.on _ ?_ (by first | omega | (simp; done) | (simp; omega))))) ?_
              clear hKK KK
              repeat (refine FA.lexI_calm_l rfl rfl ?_; intro KK hKK; go_big_quiet_step (fail); refine wpQuiet_nil ?_; refine hKK _ ?_; clear hKK KK)
              refine FA.lexI_done ?_
              go_wp2_with fail
              go_meet
              case rel => exact ⟨s9, z.val.heap.size, rfl, rfl, rfl, HL9.out, HF9.out.later (by repeat first | with_reducible exact Below.refl _ _ | with_reducible refine Below.setCell ?_ (by first | omega | (simp; done) | (simp; omega)) _ | with_reducible refine Below.alloc ?_ (by first | omega | (simp; done) | (simp; omega)) _ | with_reducible refine Below.drew ?_ | with_reducible refine Ext.on _ ?_ (by first | omega | (simp; done) | (simp; omega))), heap_alloc_new _ _, Cls.of (by repeat first | with_reducible exact Below.refl _ _ | with_reducible refine Below.setCell ?_ (by first | omega | (simp; done) | (simp; omega)) _ | with_reducible refine Below.alloc ?_ (by first | omega | (simp; done) | (simp; omega)) _ | with_reducible refine Below.drew ?_ | with_reducible refine Ext.on _ ?_ (by first | omega | (simp; done) | (simp; omega)))⟩
          case rest =>
            obtain ⟨s3, B3, rfl, rfl, rfl, hl3, hf3, hb3, z3, rfl⟩ := hcut
            have z3s := z3.size
            have HF3 := Lib.hid hf3
            have HL3 := Lib.hid hl3
            have HB3 := Lib.hid hb3
            clear hl3 hf3 hb3 c0 c1 c2 hct
            have hbx := (z3.below.block b8 hx0).trans ((x.below.block b8 hb81).trans HBX.out)
            obtain ⟨hx2, c0, c1, c2⟩ := three_s hbx
            have hct : z3.val.cell? ⟨bt, j, none⟩ = some (.slice sa sn sc) := (z3.cell _ hx1).trans ((x.cell _ hbt1).trans hc)
            have hx3 : bt < z3.val.heap.size := by omega
            clear hbx
            go_upto_region 18 with fail
            go_cut [17, 18, 19] from 63 to 161 (fun va vb vc wx => ∃ (s9 : Sl) (B : Nat), va = .slice s9.a s9.len s9.cap ∧ vb = .pointer (some ⟨B, 0, none⟩) ∧ vc = .int .i64 ce ∧ s9.len = L ∧ FrsA wx s9 cF cG ∧ wx.heap[B]? = some (.cells #[.int .i64 cn, .int .i64 cd] 34) ∧ Cls z3.val wx)
            case first =>
              refine FA.wp_region_float (C := fun w' => ∃ y : Ext z3.val, w' = y.val) 10 12 [5] _ (fun y => ⟨y, rfl⟩) (by kernel_rfl) (by kernel_rfl) (by kernel_rfl) rfl ?_
              intro y0
              have y0s := y0.size
              change FA.lexF _ _ _ _ _ _ [0, 1, 2, 3, 4, 5, 6, 7, 8, 9, 11, 12, 13] _ _
              repeat (refine FA.lexF_calm_l rfl rfl rfl ?_; intro KK hKK; go_big_quiet_step (fail); refine wpQuiet_nil ?_; refine hKK _ ?_; clear hKK KK)
              refine FA.lexF_rival_l rfl rfl rfl rfl rfl ?_ ?_
              · intro KK hKK
                go_wp2_with fail
                refine hKK _ _ (.inr (Cls.of (by repeat first | with_reducible exact Below.refl _ _ | with_reducible refine Below.setCell ?_ (by first | omega | (simp; done) | (simp; omega)) _ | with_reducible refine Below.alloc ?_ (by first | omega | (simp; done) | (simp; omega)) _ | with_reducible refine Below.drew ?_ | with_reducible refine Ext.on _ ?_ (by first | omega | (simp; done) | (simp; omega))))) ?_
                clear hKK KK
                refine FA.lexI_free_l rfl rfl ?_
                intro KK hKK
                go_wp2_with (go_at_call 10; (with_reducible refine Calls.mono (E3.out _ ?_) ?_); (focus (repeat first | with_reducible exact Below.refl _ _ | with_reducible refine Below.setCell ?_ (by first | omega | (simp; done) | (simp; omega)) _ | with_reducible refine Below.alloc ?_ (by first | omega | (simp; done) | (simp; omega)) _ | with_reducible refine Below.drew ?_ | with_reducible refine Ext.on _ ?_ (by first | omega | (simp; done) | (simp; omega)))); rintro e _ ⟨s9, rfl, hl9, hf9, hg9, ⟨z, rfl⟩⟩; have zs := z.size; (try simp at zs); have HF9 := Lib.hid hf9; have HL9 := Lib.hid hl9; have HG9 := Lib.hid hg9; clear hf9 hl9 hg9; have zb : z.val.heap[y0.val.heap.size]? = some (.cells #[.int .i64 0, .int .i64 0] 34) := (z.below.block _ (by simp)).trans (heap_alloc_new _ _); obtain ⟨zb0, zb1, zb2, _, _⟩ := two_n zb)
                refine hKK _ _ (.inr (Cls.of (by repeat first | with_reducible exact Below.refl _ _ | with_reducible refine Below.setCell ?_ (by first | omega | (simp; done) | (simp; omega)) _ | with_reducible refine Below.alloc ?_ (by first | omega | (simp; done) | (simp; omega)) _ | with_reducible refine Below.drew ?_ | with_reducible refine Ext.on _ ?_ (by first | omega | (simp; done) | (simp; omega))))) ?_
                clear hKK KK
                repeat (refine FA.lexI_calm_l rfl rfl ?_; intro KK hKK; go_big_quiet_step (fail); refine wpQuiet_nil ?_; refine hKK _ ?_; clear hKK KK)
                refine FA.lexI_free_l rfl rfl ?_
                intro KK hKK
                go_wp2_with fail
                refine hKK _ _ (.inr (Cls.of (by repeat first | with_reducible exact Below.refl _ _ | with_reducible refine Below.setCell ?_ (by first | omega | (simp; done) | (simp; omega)) _ | with_reducible refine Below.alloc ?_ (by first | omega | (simp; done) | (simp; omega)) _ | with_reducible refine Below.drew ?_ | with_reducible refine Ext.on _ ?_ (by first | omega | (simp; done) | (simp; omega))))) ?_
                clear hKK KK
                repeat (refine FA.lexI_calm_l rfl rfl ?_; intro KK hKK; go_big_quiet_step (fail); refine wpQuiet_nil ?_; refine hKK _ ?_; clear hKK KK)
                refine FA.lexI_done ?_
                go_wp2_with fail
                go_meet
                case rel => exact ⟨s9, y0.val.heap.size, rfl, rfl, rfl, HL9.out, HF9.out.past HL9.out zb HG9.out _ _, by rw [heap_setCell_same _ _ _ _ _ _ (heap_setCell_same _ _ _ _ _ _ zb)]; rfl, Cls.of (by repeat first | with_reducible exact Below.refl _ _ | with_reducible refine Below.setCell ?_ (by first | omega | (simp; done) | (simp; omega)) _ | with_reducible refine Below.alloc ?_ (by first | omega | (simp; done) | (simp; omega)) _ | with_reducible refine Below.drew ?_ | with_reducible refine Ext.on _ ?_ (by first | omega | (simp; done) | (simp; omega)))⟩
              · intro KK hKK
                go_wp2_with (go_at_call 10; (with_reducible refine Calls.mono (E3.out _ ?_) ?_); (focus (repeat first | with_reducible exact Below.refl _ _ | with_reducible refine Below.setCell ?_ (by first | omega | (simp; done) | (simp; omega)) _ | with_reducible refine Below.alloc ?_ (by first | omega | (simp; done) | (simp; omega)) _ | with_reducible refine Below.drew ?_ | with_reducible refine Ext.on _ ?_ (by first | omega | (simp; done) | (simp; omega)))); rintro e _ ⟨s9, rfl, hl9, hf9, hg9, ⟨z, rfl⟩⟩; have zs := z.size; (try simp at zs); have HF9 := Lib.hid hf9; have HL9 := Lib.hid hl9; have HG9 := Lib.hid hg9; clear hf9 hl9 hg9)
                refine hKK _ _ (.inr (Cls.of (by repeat first | with_reducible exact Below.refl _ _ | with_reducible refine Below.setCell ?_ (by first | omega | (simp; done) | (simp; omega)) _ | with_reducible refine Below.alloc ?_ (by first | omega | (simp; done) | (simp; omega)) _ | with_reducible refine Below.drew ?_ | with_reducible refine Ext.on _ ?_ (by first | omega | (simp; done) | (simp; omega))))) ?_
                clear hKK KK
                repeat (refine FA.lexF_calm_l rfl rfl rfl ?_; intro KK hKK; go_big_quiet_step (fail); refine wpQuiet_nil ?_; refine hKK _ ?_; clear hKK KK)
                refine FA.lexF_now_l rfl rfl rfl rfl rfl ?_
                intro KK hKK
                go_wp2_with fail
                refine hKK _ _ (.inr (Cls.of (by repeat first | with_reducible exact Below.refl _ _ | with_reducible refine Below.setCell ?_ (by first | omega | (simp; done) | (simp; omega)) _ | with_reducible refine Below.alloc ?_ (by first | omega | (simp; done) | (simp; omega)) _ | with_reducible refine Below.drew ?_ | with_reducible refine Ext.on _ ?_ (by first | omega | (simp; done) | (simp; omega))))) ?_
                clear hKK KK
                refine FA.lexI_free_l rfl rfl ?_
                intro KK hKK
                go_wp2_with fail
                refine hKK _ _ (.inr (Cls.of (by repeat first | with_reducible exact Below.refl _ _ | with_reducible refine Below.setCell ?_ (by first | omega | (simp; done) | (simp; omega)) _ | with_reducible refine Below.alloc ?_ (by first | omega | (simp; done) | (simp; omega)) _ | with_reducible refine Below.drew ?_ | with_reducible refine Ext.on _ ?_ (by first | omega | (simp; done) | (simp; omega))))) ?_
                clear hKK KK
                repeat (refine FA.lexI_calm_l rfl rfl ?_; intro KK hKK; go_big_quiet_step (fail); refine wpQuiet_nil ?_; refine hKK _ ?_; clear hKK KK)
                refine FA.lexI_done ?_
                go_wp2_with fail
                go_meet
                case rel => exact ⟨s9, z.val.heap.size, rfl, rfl, rfl, HL9.out, HF9.out.later (by repeat first | with_reducible exact Below.refl _ _ | with_reducible refine Below.setCell ?_ (by first | omega | (simp; done) | (simp; omega)) _ | with_reducible refine Below.alloc ?_ (by first | omega | (simp; done) | (simp; omega)) _ | with_reducible refine Below.drew ?_ | with_reducible refine Ext.on _ ?_ (by first | omega | (simp; done) | (simp; omega))), heap_alloc_new _ _, Cls.of (by repeat first | with_reducible exact Below.refl _ _ | with_reducible refine Below.setCell ?_ (by first | omega | (simp; done) | (simp; omega)) _ | with_reducible refine Below.alloc ?_ (by first | omega | (simp; done) | (simp; omega)) _ | with_reducible refine Below.drew ?_ | with_reducible refine Ext.on _ ?_ (by first | omega | (simp; done) | (simp; omega)))⟩
            case rest =>
              obtain ⟨s4, B4, rfl, rfl, rfl, hl4, hf4, hb4, z4, rfl⟩ := hcut
              have z4s := z4.size
              clear c0 c1 c2 hct
              have hbx5 := (z4.below.block b8 hx2).trans ((z3.below.block b8 hx0).trans ((x.below.block b8 hb81).trans HBX.out))
              have hct5 : z4.val.cell? ⟨bt, j, none⟩ = some (.slice sa sn sc) := (z4.cell _ hx3).trans ((z3.cell _ hx1).trans ((x.cell _ hbt1).trans hc))
              have hbt5 : bt < z4.val.heap.size := by omega
              have hB5 : Below W1.heap.size W1 z4.val := z4.on (z3.on x.below (by omega)) (by omega)
              have hf3 := HF3.out.later z4.below
              have hb3 : z4.val.heap[B3]? = some (.cells #[.int .i64 cn, .int .i64 cd] 34) := (z4.below.block B3 (Array.getElem?_eq_some_iff.1 HB3.out).1).trans HB3.out
              have hl3 := HL3.out
              clear HF3 HL3 HB3
              obtain ⟨e1, f1, g1⟩ := s3
              obtain ⟨e2, f2, g2⟩ := s4
              simp only at hl3 hl4
              have hl3' := hl3.symm
              have hl4' := hl4.symm
              clear hl3 hl4
              subst hl3'
              subst hl4'
              have HB5 := Lib.hid hB5
              have hB5s := hB5.size
              have hz4 : z3.val.heap.size ≤ z4.val.heap.size := z4s
              clear hB5 z4s
              generalize z4.val = W5 at hbx5 hct5 hbt5 HB5 hB5s hf3 hb3 hf4 hb4 hz4 ⊢
              obtain ⟨hx0', c0, c1, c2⟩ := three_s hbx5
              obtain ⟨hx4, _, _, a0, a1⟩ := two_n hb3
              obtain ⟨hx5, _, _, b0, b1⟩ := two_n hb4
              have CS := Lib.hid (fun (W : World) (hb : Below W5.heap.size W5 W) => same_calls e1 L g1 e2 g2 cF cG W (hf3.later hb) (hf4.later hb))
              clear hf3 hf4 hb3 hb4 E2 E3 hx0 hx1 hx2 hx3 z4 hz4 z3s z3
              have hx0 := hx0'
              go_upto_region 19 with fail
              refine wp_region_inv (x := (⟨W5, Below.refl _ _⟩ : Ext W5)) (fun kk u W => match kk with
                | 0 => u = .slice e1 L g1
                | 1 => u = .slice e2 L g2
                | 2 => u = .bool true
                | 3 => u = .bool false
                | 4 => u = .bool false
                | 5 => u = .agg #[.int .i64 cn, .int .i64 cd]
                | 6 => u = .agg #[.int .i64 cn, .int .i64 cd]
                | 7 => u = .bool false
                | 8 => u = .bool false
                | 9 => u = .bool false
                | 10 => u = .int .i64 ce
                | 11 => u = .int .i64 ce
                | 12 => u = .bool false
                | 13 => u = .bool false
                | 14 => u = .bool false
                | 15 => u = .agg #[.slice ua un uc, .slice ra rn rc, .slice ba bn bc]
                | 16 => u = .slice (some ⟨bt, 0, none⟩) 2 2
                | 17 => u = .int .i64 (j : Int)
                | 18 => u = .pointer (some ⟨bt, j, none⟩)
                | 19 => u = .slice sa sn sc
                | 20 => u = .bool lb
                | 21 => u = .agg #[.slice ua un uc, .slice ra rn rc, .slice ba bn bc]
                | 22 => u = .slice (some ⟨bt, 0, none⟩) 2 2
                | 23 => u = .int .i64 (j : Int)
                | 24 => u = .pointer (some ⟨bt, j, none⟩)
                | 25 => u = .slice sa sn sc
                | 26 => u = .bool lb
                | 27 => u = .bool false
                | 28 => u = .bool false
                | _ => True) 162 (by kernel_rfl) rfl (by kernel_rfl) (fun kk u W1 W2 hcc => by
                match kk with
                | 0 => exact id
                | 1 => exact id
                | 2 => exact id
                | 3 => exact id
                | 4 => exact id
                | 5 => exact id
                | 6 => exact id
                | 7 => exact id
                | 8 => exact id
                | 9 => exact id
                | 10 => exact id
                | 11 => exact id
                | 12 => exact id
                | 13 => exact id
                | 14 => exact id
                | 15 => exact id
                | 16 => exact id
                | 17 => exact id
                | 18 => exact id
                | 19 => exact id
                | 20 => exact id
                | 21 => exact id
                | 22 => exact id
                | 23 => exact id
                | 24 => exact id
                | 25 => exact id
                | 26 => exact id
                | 27 => exact id
                | 28 => exact id
                | _ + 29 => exact id) ?_
              refine inv_step (fun W hW hd K hK => ?_) (fun v0 aq hq => ?_)
              · obtain ⟨y, rfl⟩ := hW
                have ys := y.size
                have HK := Lib.hid hK
                clear hd hK
                go_wp2_with fail
                exact HK.out _ _ rfl ⟨⟨y, rfl⟩, ⟨⟨y.val, Below.refl _ _⟩, rfl⟩⟩ rfl trivial
              simp only [Act.put, List.setIfInBounds_toArray, List.set_cons_zero, List.set_cons_succ] at hq
              subst hq
              refine inv_step (fun W hW hd K hK => ?_) (fun v1 aq hq => ?_)
              · obtain ⟨y, rfl⟩ := hW
                have ys := y.size
                have HK := Lib.hid hK
                clear hd hK
                go_wp2_with fail
                exact HK.out _ _ rfl ⟨⟨y, rfl⟩, ⟨⟨y.val, Below.refl _ _⟩, rfl⟩⟩ rfl trivial
              simp only [Act.put, List.setIfInBounds_toArray, List.set_cons_zero, List.set_cons_succ] at hq
              subst hq
              refine inv_step (fun W hW hd K hK => ?_) (fun v2 aq hq => ?_)
              · obtain ⟨y, rfl⟩ := hW
                have ys := y.size
                have HK := Lib.hid hK
                obtain rfl : v0 = .slice e1 L g1 := hd 0 (by kernel_rfl)
                obtain rfl : v1 = .slice e2 L g2 := hd 1 (by kernel_rfl)
                clear hd hK
                go_wp2_with (go_at_call 11; (with_reducible refine Calls.mono (CS.out y.val y.below) ?_); rintro e _ ⟨rfl, ⟨z, rfl⟩⟩)
                exact HK.out _ _ rfl ⟨Cls.step y ⟨z, rfl⟩, ⟨z, rfl⟩⟩ rfl trivial
              simp only [Act.put, List.setIfInBounds_toArray, List.set_cons_zero, List.set_cons_succ] at hq
              subst hq
              refine inv_step (fun W hW hd K hK => ?_) (fun v3 aq hq => ?_)
              · obtain ⟨y, rfl⟩ := hW
                have ys := y.size
                have HK := Lib.hid hK
                obtain rfl : v2 = .bool true := hd 2 (by kernel_rfl)
                clear hd hK
                go_wp2_with fail
                exact HK.out _ _ rfl ⟨⟨y, rfl⟩, ⟨⟨y.val, Below.refl _ _⟩, rfl⟩⟩ rfl trivial
              simp only [Act.put, List.setIfInBounds_toArray, List.set_cons_zero, List.set_cons_succ] at hq
              subst hq
              refine inv_step (fun W hW hd K hK => ?_) (fun v4 aq hq => ?_)
              · obtain ⟨y, rfl⟩ := hW
                have ys := y.size
                have HK := Lib.hid hK
                obtain rfl : v3 = .bool false := hd 3 (by kernel_rfl)
                clear hd hK
                go_wp2_with fail
                exact HK.out _ _ rfl ⟨⟨y, rfl⟩, ⟨⟨y.val, Below.refl _ _⟩, rfl⟩⟩ rfl trivial
              simp only [Act.put, List.setIfInBounds_toArray, List.set_cons_zero, List.set_cons_succ] at hq
              subst hq
              refine inv_step (fun W hW hd K hK => ?_) (fun v5 aq hq => ?_)
              · obtain ⟨y, rfl⟩ := hW
                have ys := y.size
                have HK := Lib.hid hK
                obtain rfl : v4 = .bool false := hd 4 (by kernel_rfl)
                clear hd hK
                go_wp2_with fail
                exact HK.out _ _ rfl ⟨⟨y, rfl⟩, ⟨⟨y.val, Below.refl _ _⟩, rfl⟩⟩ rfl trivial
              simp only [Act.put, List.setIfInBounds_toArray, List.set_cons_zero, List.set_cons_succ] at hq
              subst hq
              refine inv_step (fun W hW hd K hK => ?_) (fun v6 aq hq => ?_)
              · obtain ⟨y, rfl⟩ := hW
                have ys := y.size
                have HK := Lib.hid hK
                obtain rfl : v4 = .bool false := hd 4 (by kernel_rfl)
                clear hd hK
                go_wp2_with fail
                exact HK.out _ _ rfl ⟨⟨y, rfl⟩, ⟨⟨y.val, Below.refl _ _⟩, rfl⟩⟩ rfl trivial
              simp only [Act.put, List.setIfInBounds_toArray, List.set_cons_zero, List.set_cons_succ] at hq
              subst hq
              refine inv_step (fun W hW hd K hK => ?_) (fun v7 aq hq => ?_)
              · obtain ⟨y, rfl⟩ := hW
                have ys := y.size
                have HK := Lib.hid hK
                obtain rfl : v4 = .bool false := hd 4 (by kernel_rfl)
                obtain rfl : v5 = .agg #[.int .i64 cn, .int .i64 cd] := hd 5 (by kernel_rfl)
                obtain rfl : v6 = .agg #[.int .i64 cn, .int .i64 cd] := hd 6 (by kernel_rfl)
                clear hd hK
                go_wp2_with fail
                exact HK.out _ _ rfl ⟨⟨y, rfl⟩, ⟨⟨y.val, Below.refl _ _⟩, rfl⟩⟩ rfl trivial
              simp only [Act.put, List.setIfInBounds_toArray, List.set_cons_zero, List.set_cons_succ] at hq
              subst hq
              refine inv_step (fun W hW hd K hK => ?_) (fun v8 aq hq => ?_)
              · obtain ⟨y, rfl⟩ := hW
                have ys := y.size
                have HK := Lib.hid hK
                obtain rfl : v4 = .bool false := hd 4 (by kernel_rfl)
                obtain rfl : v7 = .bool false := hd 7 (by kernel_rfl)
                clear hd hK
                go_wp2_with fail
                exact HK.out _ _ rfl ⟨⟨y, rfl⟩, ⟨⟨y.val, Below.refl _ _⟩, rfl⟩⟩ rfl trivial
              simp only [Act.put, List.setIfInBounds_toArray, List.set_cons_zero, List.set_cons_succ] at hq
              subst hq
              refine inv_step (fun W hW hd K hK => ?_) (fun v9 aq hq => ?_)
              · obtain ⟨y, rfl⟩ := hW
                have ys := y.size
                have HK := Lib.hid hK
                obtain rfl : v8 = .bool false := hd 8 (by kernel_rfl)
                clear hd hK
                go_wp2_with fail
                exact HK.out _ _ rfl ⟨⟨y, rfl⟩, ⟨⟨y.val, Below.refl _ _⟩, rfl⟩⟩ rfl trivial
              simp only [Act.put, List.setIfInBounds_toArray, List.set_cons_zero, List.set_cons_succ] at hq
              subst hq
              refine inv_step (fun W hW hd K hK => ?_) (fun v10 aq hq => ?_)
              · obtain ⟨y, rfl⟩ := hW
                have ys := y.size
                have HK := Lib.hid hK
                obtain rfl : v9 = .bool false := hd 9 (by kernel_rfl)
                clear hd hK
                go_wp2_with fail
                exact HK.out _ _ rfl ⟨⟨y, rfl⟩, ⟨⟨y.val, Below.refl _ _⟩, rfl⟩⟩ rfl trivial
              simp only [Act.put, List.setIfInBounds_toArray, List.set_cons_zero, List.set_cons_succ] at hq
              subst hq
              refine inv_step (fun W hW hd K hK => ?_) (fun v11 aq hq => ?_)
              · obtain ⟨y, rfl⟩ := hW
                have ys := y.size
                have HK := Lib.hid hK
                obtain rfl : v9 = .bool false := hd 9 (by kernel_rfl)
                clear hd hK
                go_wp2_with fail
                exact HK.out _ _ rfl ⟨⟨y, rfl⟩, ⟨⟨y.val, Below.refl _ _⟩, rfl⟩⟩ rfl trivial
              simp only [Act.put, List.setIfInBounds_toArray, List.set_cons_zero, List.set_cons_succ] at hq
              subst hq
              refine inv_step (fun W hW hd K hK => ?_) (fun v12 aq hq => ?_)
              · obtain ⟨y, rfl⟩ := hW
                have ys := y.size
                have HK := Lib.hid hK
                obtain rfl : v9 = .bool false := hd 9 (by kernel_rfl)
                obtain rfl : v10 = .int .i64 ce := hd 10 (by kernel_rfl)
                obtain rfl : v11 = .int .i64 ce := hd 11 (by kernel_rfl)
                clear hd hK
                go_wp2_with fail
                exact HK.out _ _ rfl ⟨⟨y, rfl⟩, ⟨⟨y.val, Below.refl _ _⟩, rfl⟩⟩ rfl trivial
              simp only [Act.put, List.setIfInBounds_toArray, List.set_cons_zero, List.set_cons_succ] at hq
              subst hq
              refine inv_step (fun W hW hd K hK => ?_) (fun v13 aq hq => ?_)
              · obtain ⟨y, rfl⟩ := hW
                have ys := y.size
                have HK := Lib.hid hK
                obtain rfl : v9 = .bool false := hd 9 (by kernel_rfl)
                obtain rfl : v12 = .bool false := hd 12 (by kernel_rfl)
                clear hd hK
                go_wp2_with fail
                exact HK.out _ _ rfl ⟨⟨y, rfl⟩, ⟨⟨y.val, Below.refl _ _⟩, rfl⟩⟩ rfl trivial
              simp only [Act.put, List.setIfInBounds_toArray, List.set_cons_zero, List.set_cons_succ] at hq
              subst hq
              refine inv_step (fun W hW hd K hK => ?_) (fun v14 aq hq => ?_)
              · obtain ⟨y, rfl⟩ := hW
                have ys := y.size
                have HK := Lib.hid hK
                obtain rfl : v13 = .bool false := hd 13 (by kernel_rfl)
                clear hd hK
                go_wp2_with fail
                exact HK.out _ _ rfl ⟨⟨y, rfl⟩, ⟨⟨y.val, Below.refl _ _⟩, rfl⟩⟩ rfl trivial
              simp only [Act.put, List.setIfInBounds_toArray, List.set_cons_zero, List.set_cons_succ] at hq
              subst hq
              refine inv_step (fun W hW hd K hK => ?_) (fun v15 aq hq => ?_)
              · obtain ⟨y, rfl⟩ := hW
                have ys := y.size
                have HK := Lib.hid hK
                obtain rfl : v14 = .bool false := hd 14 (by kernel_rfl)
                clear hd hK
                go_wp2_with fail
                exact HK.out _ _ rfl ⟨⟨y, rfl⟩, ⟨⟨y.val, Below.refl _ _⟩, rfl⟩⟩ rfl trivial
              simp only [Act.put, List.setIfInBounds_toArray, List.set_cons_zero, List.set_cons_succ] at hq
              subst hq
              refine inv_step (fun W hW hd K hK => ?_) (fun v16 aq hq => ?_)
              · obtain ⟨y, rfl⟩ := hW
                have ys := y.size
                have HK := Lib.hid hK
                obtain rfl : v14 = .bool false := hd 14 (by kernel_rfl)
                clear hd hK
                go_wp2_with fail
                exact HK.out _ _ rfl ⟨⟨y, rfl⟩, ⟨⟨y.val, Below.refl _ _⟩, rfl⟩⟩ rfl trivial
              simp only [Act.put, List.setIfInBounds_toArray, List.set_cons_zero, List.set_cons_succ] at hq
              subst hq
              refine inv_step (fun W hW hd K hK => ?_) (fun v17 aq hq => ?_)
              · obtain ⟨y, rfl⟩ := hW
                have ys := y.size
                have HK := Lib.hid hK
                obtain rfl : v14 = .bool false := hd 14 (by kernel_rfl)
                clear hd hK
                go_wp2_with fail
                exact HK.out _ _ rfl ⟨⟨y, rfl⟩, ⟨⟨y.val, Below.refl _ _⟩, rfl⟩⟩ rfl trivial
              simp only [Act.put, List.setIfInBounds_toArray, List.set_cons_zero, List.set_cons_succ] at hq
              subst hq
              refine inv_step (fun W hW hd K hK => ?_) (fun v18 aq hq => ?_)
              · obtain ⟨y, rfl⟩ := hW
                have ys := y.size
                have HK := Lib.hid hK
                obtain rfl : v14 = .bool false := hd 14 (by kernel_rfl)
                obtain rfl : v16 = .slice (some ⟨bt, 0, none⟩) 2 2 := hd 16 (by kernel_rfl)
                obtain rfl : v17 = .int .i64 (j : Int) := hd 17 (by kernel_rfl)
                clear hd hK
                go_wp2_with fail
                exact HK.out _ _ rfl ⟨⟨y, rfl⟩, ⟨⟨y.val, Below.refl _ _⟩, rfl⟩⟩ rfl trivial
              simp only [Act.put, List.setIfInBounds_toArray, List.set_cons_zero, List.set_cons_succ] at hq
              subst hq
              refine inv_step (fun W hW hd K hK => ?_) (fun v19 aq hq => ?_)
              · obtain ⟨y, rfl⟩ := hW
                have ys := y.size
                have HK := Lib.hid hK
                obtain rfl : v14 = .bool false := hd 14 (by kernel_rfl)
                obtain rfl : v18 = .pointer (some ⟨bt, j, none⟩) := hd 18 (by kernel_rfl)
                clear hd hK
                go_wp2_with fail
                exact HK.out _ _ rfl ⟨⟨y, rfl⟩, ⟨⟨y.val, Below.refl _ _⟩, rfl⟩⟩ rfl trivial
              simp only [Act.put, List.setIfInBounds_toArray, List.set_cons_zero, List.set_cons_succ] at hq
              subst hq
              refine inv_step (fun W hW hd K hK => ?_) (fun v20 aq hq => ?_)
              · obtain ⟨y, rfl⟩ := hW
                have ys := y.size
                have HK := Lib.hid hK
                obtain rfl : v14 = .bool false := hd 14 (by kernel_rfl)
                obtain rfl : v15 = .agg #[.slice ua un uc, .slice ra rn rc, .slice ba bn bc] := hd 15 (by kernel_rfl)
                obtain rfl : v19 = .slice sa sn sc := hd 19 (by kernel_rfl)
                clear hd hK
                go_wp2_with (go_at_call 12; (with_reducible refine Calls.mono (E6.out y.val (y.on HB5.out (by omega))) ?_); rintro e _ ⟨rfl, ⟨z, rfl⟩⟩)
                exact HK.out _ _ rfl ⟨Cls.step y ⟨z, rfl⟩, ⟨z, rfl⟩⟩ rfl trivial
              simp only [Act.put, List.setIfInBounds_toArray, List.set_cons_zero, List.set_cons_succ] at hq
              subst hq
              refine inv_step (fun W hW hd K hK => ?_) (fun v21 aq hq => ?_)
              · obtain ⟨y, rfl⟩ := hW
                have ys := y.size
                have HK := Lib.hid hK
                obtain rfl : v14 = .bool false := hd 14 (by kernel_rfl)
                clear hd hK
                go_wp2_with fail
                exact HK.out _ _ rfl ⟨⟨y, rfl⟩, ⟨⟨y.val, Below.refl _ _⟩, rfl⟩⟩ rfl trivial
              simp only [Act.put, List.setIfInBounds_toArray, List.set_cons_zero, List.set_cons_succ] at hq
              subst hq
              refine inv_step (fun W hW hd K hK => ?_) (fun v22 aq hq => ?_)
              · obtain ⟨y, rfl⟩ := hW
                have ys := y.size
                have HK := Lib.hid hK
                obtain rfl : v14 = .bool false := hd 14 (by kernel_rfl)
                clear hd hK
                go_wp2_with fail
                exact HK.out _ _ rfl ⟨⟨y, rfl⟩, ⟨⟨y.val, Below.refl _ _⟩, rfl⟩⟩ rfl trivial
              simp only [Act.put, List.setIfInBounds_toArray, List.set_cons_zero, List.set_cons_succ] at hq
              subst hq
              refine inv_step (fun W hW hd K hK => ?_) (fun v23 aq hq => ?_)
              · obtain ⟨y, rfl⟩ := hW
                have ys := y.size
                have HK := Lib.hid hK
                obtain rfl : v14 = .bool false := hd 14 (by kernel_rfl)
                clear hd hK
                go_wp2_with fail
                exact HK.out _ _ rfl ⟨⟨y, rfl⟩, ⟨⟨y.val, Below.refl _ _⟩, rfl⟩⟩ rfl trivial
              simp only [Act.put, List.setIfInBounds_toArray, List.set_cons_zero, List.set_cons_succ] at hq
              subst hq
              refine inv_step (fun W hW hd K hK => ?_) (fun v24 aq hq => ?_)
              · obtain ⟨y, rfl⟩ := hW
                have ys := y.size
                have HK := Lib.hid hK
                obtain rfl : v14 = .bool false := hd 14 (by kernel_rfl)
                obtain rfl : v22 = .slice (some ⟨bt, 0, none⟩) 2 2 := hd 22 (by kernel_rfl)
                obtain rfl : v23 = .int .i64 (j : Int) := hd 23 (by kernel_rfl)
                clear hd hK
                go_wp2_with fail
                exact HK.out _ _ rfl ⟨⟨y, rfl⟩, ⟨⟨y.val, Below.refl _ _⟩, rfl⟩⟩ rfl trivial
              simp only [Act.put, List.setIfInBounds_toArray, List.set_cons_zero, List.set_cons_succ] at hq
              subst hq
              refine inv_step (fun W hW hd K hK => ?_) (fun v25 aq hq => ?_)
              · obtain ⟨y, rfl⟩ := hW
                have ys := y.size
                have HK := Lib.hid hK
                obtain rfl : v14 = .bool false := hd 14 (by kernel_rfl)
                obtain rfl : v24 = .pointer (some ⟨bt, j, none⟩) := hd 24 (by kernel_rfl)
                clear hd hK
                go_wp2_with fail
                exact HK.out _ _ rfl ⟨⟨y, rfl⟩, ⟨⟨y.val, Below.refl _ _⟩, rfl⟩⟩ rfl trivial
              simp only [Act.put, List.setIfInBounds_toArray, List.set_cons_zero, List.set_cons_succ] at hq
              subst hq
              refine inv_step (fun W hW hd K hK => ?_) (fun v26 aq hq => ?_)
              · obtain ⟨y, rfl⟩ := hW
                have ys := y.size
                have HK := Lib.hid hK
                obtain rfl : v14 = .bool false := hd 14 (by kernel_rfl)
                obtain rfl : v21 = .agg #[.slice ua un uc, .slice ra rn rc, .slice ba bn bc] := hd 21 (by kernel_rfl)
                obtain rfl : v25 = .slice sa sn sc := hd 25 (by kernel_rfl)
                clear hd hK
                go_wp2_with (go_at_call 13; (with_reducible refine Calls.mono (E7.out y.val (y.on HB5.out (by omega))) ?_); rintro e _ ⟨rfl, ⟨z, rfl⟩⟩)
                exact HK.out _ _ rfl ⟨Cls.step y ⟨z, rfl⟩, ⟨z, rfl⟩⟩ rfl trivial
              simp only [Act.put, List.setIfInBounds_toArray, List.set_cons_zero, List.set_cons_succ] at hq
              subst hq
              refine inv_step (fun W hW hd K hK => ?_) (fun v27 aq hq => ?_)
              · obtain ⟨y, rfl⟩ := hW
                have ys := y.size
                have HK := Lib.hid hK
                obtain rfl : v14 = .bool false := hd 14 (by kernel_rfl)
                obtain rfl : v20 = .bool lb := hd 20 (by kernel_rfl)
                obtain rfl : v26 = .bool lb := hd 26 (by kernel_rfl)
                clear hd hK
                go_wp2_with fail
                exact HK.out _ _ rfl ⟨⟨y, rfl⟩, ⟨⟨y.val, Below.refl _ _⟩, rfl⟩⟩ rfl trivial
              simp only [Act.put, List.setIfInBounds_toArray, List.set_cons_zero, List.set_cons_succ] at hq
              subst hq
              refine inv_step (fun W hW hd K hK => ?_) (fun v28 aq hq => ?_)
              · obtain ⟨y, rfl⟩ := hW
                have ys := y.size
                have HK := Lib.hid hK
                obtain rfl : v14 = .bool false := hd 14 (by kernel_rfl)
                obtain rfl : v27 = .bool false := hd 27 (by kernel_rfl)
                clear hd hK
                go_wp2_with fail
                exact HK.out _ _ rfl ⟨⟨y, rfl⟩, ⟨⟨y.val, Below.refl _ _⟩, rfl⟩⟩ rfl trivial
              simp only [Act.put, List.setIfInBounds_toArray, List.set_cons_zero, List.set_cons_succ] at hq
              subst hq
              refine inv_nil fun W hW hT hR => ?_
              obtain ⟨y, rfl⟩ := hW
              have ys := y.size
              obtain rfl : v28 = .bool false := hT 28 (by decide)
              clear hT hR
              have hbx6 := (y.below.block b8 hx0).trans hbx5
              have hct6 := (y.cell (b := bt) j hbt5).trans hct5
              have HB6 := Lib.hid (y.on HB5.out (by omega))
              clear CS c0 c1 c2 a0 a1 b0 b1 E6 E7
              generalize y.val = W5 at hbx6 hct6 HB6 ys ⊢
              have hmk := make_nums un (by omega)
              obtain ⟨_, c0, c1, c2⟩ := three_s hbx6
              have hz6 : ∀ W6 : World, W6 = W5.alloc (.cells (madeCells #[.int .i64 0] un) 2) → IntsA W6 ⟨some ⟨W5.heap.size, 0, none⟩, un, un⟩ (fun _ => 0) ∧ Below W5.heap.size W5 W6 := by
                rintro W6 rfl
                exact ⟨(rowB_made un W5).ints (by omega), (Below.refl _ _).alloc (Nat.le_refl _) _⟩
              have HZ6 := Lib.hid hz6
              clear hz6
              go_upto_region 22 with fail
              obtain ⟨hz7, hb7⟩ := HZ6.out _ rfl
              have hb7s := hb7.size
              have hbx7 := (hb7.block b8 (by omega)).trans hbx6
              have hct7 : World.cell? _ ⟨bt, j, none⟩ = _ := (hb7.cell (p := ⟨bt, j, none⟩) (show bt < _ by omega)).trans hct6
              have HB7 := Lib.hid (HB6.out.trans (hb7.mono HB6.out.size))
              clear HZ6 hmk hb7 hbx6 hct6 HB6 c0 c1 c2
              generalize W5.heap.size = bz at hz7 hbx7 hct7 HB7 hb7s ⊢
              generalize W5.alloc _ = W6 at hz7 hbx7 hct7 HB7 hb7s ⊢
              have G4 := Lib.hid (E4.out _ _ _ _ W6 HB7.out hz7)
              have G5 := Lib.hid (E5.out _ _ _ _ W6 HB7.out hz7)
              have H4 := Lib.hid (E4.out _ _ _ _ W6 HB7.out (HL1.out.later HB7.out))
              have H5 := Lib.hid (E5.out _ _ _ _ W6 HB7.out (HL1.out.later HB7.out))
              clear E4 E5 hz7
              generalize cbB sy sn mn md un (fun _ => 0) un sy.up = cb0 at G4 G5
              generalize cbB sy sn mn md ln fl un sy.up = cb1 at H4 H5
              obtain ⟨hx7, c0, c1, c2⟩ := three_s hbx7
              have HB6 := HB7
              have HB7s := HB7.out.size
              have hbt7 : bt < W6.heap.size := by omega
              clear hbx7 HB7
              refine wp_region_inv (x := (⟨W6, Below.refl _ _⟩ : Ext W6)) (fun kk u W => match kk with
                | 0 => u = .agg #[.slice ua un uc, .slice ra rn rc, .slice ba bn bc]
                | 1 => u = .slice (some ⟨bz, 0, none⟩) un un
                | 2 => u = .pointer (some ⟨b8, 0, none⟩)
                | 3 => u = .slice ua un uc
                | 4 => u = .slice (some ⟨bt, 0, none⟩) 2 2
                | 5 => u = .int .i64 (j : Int)
                | 6 => u = .pointer (some ⟨bt, j, none⟩)
                | 7 => u = .slice sa sn sc
                | 8 => u = .bool cb0
                | 9 => u = .agg #[.slice ua un uc, .slice ra rn rc, .slice ba bn bc]
                | 10 => u = .slice (some ⟨bz, 0, none⟩) un un
                | 11 => u = .pointer (some ⟨b8, 0, none⟩)
                | 12 => u = .slice ua un uc
                | 13 => u = .slice (some ⟨bt, 0, none⟩) 2 2
                | 14 => u = .int .i64 (j : Int)
                | 15 => u = .pointer (some ⟨bt, j, none⟩)
                | 16 => u = .slice sa sn sc
                | 17 => u = .bool cb0
                | 18 => u = .bool false
                | 19 => u = .bool false
                | 20 => u = .agg #[.slice ua un uc, .slice ra rn rc, .slice ba bn bc]
                | 21 => u = .slice la ln lc
                | 22 => u = .pointer (some ⟨b8, 0, none⟩)
                | 23 => u = .slice ua un uc
                | 24 => u = .slice (some ⟨bt, 0, none⟩) 2 2
                | 25 => u = .int .i64 (j : Int)
                | 26 => u = .pointer (some ⟨bt, j, none⟩)
                | 27 => u = .slice sa sn sc
                | 28 => u = .bool cb1
                | 29 => u = .agg #[.slice ua un uc, .slice ra rn rc, .slice ba bn bc]
                | 30 => u = .slice la ln lc
                | 31 => u = .pointer (some ⟨b8, 0, none⟩)
                | 32 => u = .slice ua un uc
                | 33 => u = .slice (some ⟨bt, 0, none⟩) 2 2
                | 34 => u = .int .i64 (j : Int)
                | 35 => u = .pointer (some ⟨bt, j, none⟩)
                | 36 => u = .slice sa sn sc
                | 37 => u = .bool cb1
                | 38 => u = .bool false
                | 39 => u = .bool false
                | _ => True) 162 (by kernel_rfl) rfl (by kernel_rfl) (fun kk u W1 W2 hcc => by
                match kk with
                | 0 => exact id
                | 1 => exact id
                | 2 => exact id
                | 3 => exact id
                | 4 => exact id
                | 5 => exact id
                | 6 => exact id
                | 7 => exact id
                | 8 => exact id
                | 9 => exact id
                | 10 => exact id
                | 11 => exact id
                | 12 => exact id
                | 13 => exact id
                | 14 => exact id
                | 15 => exact id
                | 16 => exact id
                | 17 => exact id
                | 18 => exact id
                | 19 => exact id
                | 20 => exact id
                | 21 => exact id
                | 22 => exact id
                | 23 => exact id
                | 24 => exact id
                | 25 => exact id
                | 26 => exact id
                | 27 => exact id
                | 28 => exact id
                | 29 => exact id
                | 30 => exact id
                | 31 => exact id
                | 32 => exact id
                | 33 => exact id
                | 34 => exact id
                | 35 => exact id
                | 36 => exact id
                | 37 => exact id
                | 38 => exact id
                | 39 => exact id
                | _ + 40 => exact id) ?_
              refine inv_step (fun W hW hd K hK => ?_) (fun v0 aq hq => ?_)
              · obtain ⟨y, rfl⟩ := hW
                have ys := y.size
                have HK := Lib.hid hK
                clear hd hK
                go_wp2_with fail
                exact HK.out _ _ rfl ⟨⟨y, rfl⟩, ⟨⟨y.val, Below.refl _ _⟩, rfl⟩⟩ rfl trivial
              simp only [Act.put, List.setIfInBounds_toArray, List.set_cons_zero, List.set_cons_succ] at hq
              subst hq
              refine inv_step (fun W hW hd K hK => ?_) (fun v1 aq hq => ?_)
              · obtain ⟨y, rfl⟩ := hW
                have ys := y.size
                have HK := Lib.hid hK
                clear hd hK
                go_wp2_with fail
                exact HK.out _ _ rfl ⟨⟨y, rfl⟩, ⟨⟨y.val, Below.refl _ _⟩, rfl⟩⟩ rfl trivial
              simp only [Act.put, List.setIfInBounds_toArray, List.set_cons_zero, List.set_cons_succ] at hq
              subst hq
              refine inv_step (fun W hW hd K hK => ?_) (fun v2 aq hq => ?_)
              · obtain ⟨y, rfl⟩ := hW
                have ys := y.size
                have HK := Lib.hid hK
                clear hd hK
                go_wp2_with fail
                exact HK.out _ _ rfl ⟨⟨y, rfl⟩, ⟨⟨y.val, Below.refl _ _⟩, rfl⟩⟩ rfl trivial
              simp only [Act.put, List.setIfInBounds_toArray, List.set_cons_zero, List.set_cons_succ] at hq
              subst hq
              refine inv_step (fun W hW hd K hK => ?_) (fun v3 aq hq => ?_)
              · obtain ⟨y, rfl⟩ := hW
                have ys := y.size
                have HK := Lib.hid hK
                obtain rfl : v2 = .pointer (some ⟨b8, 0, none⟩) := hd 2 (by kernel_rfl)
                clear hd hK
                go_wp2_with fail
                exact HK.out _ _ rfl ⟨⟨y, rfl⟩, ⟨⟨y.val, Below.refl _ _⟩, rfl⟩⟩ rfl trivial
              simp only [Act.put, List.setIfInBounds_toArray, List.set_cons_zero, List.set_cons_succ] at hq
              subst hq
              refine inv_step (fun W hW hd K hK => ?_) (fun v4 aq hq => ?_)
              · obtain ⟨y, rfl⟩ := hW
                have ys := y.size
                have HK := Lib.hid hK
                clear hd hK
                go_wp2_with fail
                exact HK.out _ _ rfl ⟨⟨y, rfl⟩, ⟨⟨y.val, Below.refl _ _⟩, rfl⟩⟩ rfl trivial
              simp only [Act.put, List.setIfInBounds_toArray, List.set_cons_zero, List.set_cons_succ] at hq
              subst hq
              refine inv_step (fun W hW hd K hK => ?_) (fun v5 aq hq => ?_)
              · obtain ⟨y, rfl⟩ := hW
                have ys := y.size
                have HK := Lib.hid hK
                clear hd hK
                go_wp2_with fail
                exact HK.out _ _ rfl ⟨⟨y, rfl⟩, ⟨⟨y.val, Below.refl _ _⟩, rfl⟩⟩ rfl trivial
              simp only [Act.put, List.setIfInBounds_toArray, List.set_cons_zero, List.set_cons_succ] at hq
              subst hq
              refine inv_step (fun W hW hd K hK => ?_) (fun v6 aq hq => ?_)
              · obtain ⟨y, rfl⟩ := hW
                have ys := y.size
                have HK := Lib.hid hK
                obtain rfl : v4 = .slice (some ⟨bt, 0, none⟩) 2 2 := hd 4 (by kernel_rfl)
                obtain rfl : v5 = .int .i64 (j : Int) := hd 5 (by kernel_rfl)
                clear hd hK
                go_wp2_with fail
                exact HK.out _ _ rfl ⟨⟨y, rfl⟩, ⟨⟨y.val, Below.refl _ _⟩, rfl⟩⟩ rfl trivial
              simp only [Act.put, List.setIfInBounds_toArray, List.set_cons_zero, List.set_cons_succ] at hq
              subst hq
              refine inv_step (fun W hW hd K hK => ?_) (fun v7 aq hq => ?_)
              · obtain ⟨y, rfl⟩ := hW
                have ys := y.size
                have HK := Lib.hid hK
                obtain rfl : v6 = .pointer (some ⟨bt, j, none⟩) := hd 6 (by kernel_rfl)
                clear hd hK
                go_wp2_with fail
                exact HK.out _ _ rfl ⟨⟨y, rfl⟩, ⟨⟨y.val, Below.refl _ _⟩, rfl⟩⟩ rfl trivial
              simp only [Act.put, List.setIfInBounds_toArray, List.set_cons_zero, List.set_cons_succ] at hq
              subst hq
              refine inv_step (fun W hW hd K hK => ?_) (fun v8 aq hq => ?_)
              · obtain ⟨y, rfl⟩ := hW
                have ys := y.size
                have HK := Lib.hid hK
                obtain rfl : v0 = .agg #[.slice ua un uc, .slice ra rn rc, .slice ba bn bc] := hd 0 (by kernel_rfl)
                obtain rfl : v1 = .slice (some ⟨bz, 0, none⟩) un un := hd 1 (by kernel_rfl)
                obtain rfl : v3 = .slice ua un uc := hd 3 (by kernel_rfl)
                obtain rfl : v7 = .slice sa sn sc := hd 7 (by kernel_rfl)
                clear hd hK
                go_wp2_with (go_at_call 14; (with_reducible refine Calls.mono (G4.out y.val y.below) ?_); rintro e _ ⟨rfl, ⟨z, rfl⟩⟩)
                exact HK.out _ _ rfl ⟨Cls.step y ⟨z, rfl⟩, ⟨z, rfl⟩⟩ rfl trivial
              simp only [Act.put, List.setIfInBounds_toArray, List.set_cons_zero, List.set_cons_succ] at hq
              subst hq
              refine inv_step (fun W hW hd K hK => ?_) (fun v9 aq hq => ?_)
              · obtain ⟨y, rfl⟩ := hW
                have ys := y.size
                have HK := Lib.hid hK
                clear hd hK
                go_wp2_with fail
                exact HK.out _ _ rfl ⟨⟨y, rfl⟩, ⟨⟨y.val, Below.refl _ _⟩, rfl⟩⟩ rfl trivial
              simp only [Act.put, List.setIfInBounds_toArray, List.set_cons_zero, List.set_cons_succ] at hq
              subst hq
              refine inv_step (fun W hW hd K hK => ?_) (fun v10 aq hq => ?_)
              · obtain ⟨y, rfl⟩ := hW
                have ys := y.size
                have HK := Lib.hid hK
                clear hd hK
                go_wp2_with fail
                exact HK.out _ _ rfl ⟨⟨y, rfl⟩, ⟨⟨y.val, Below.refl _ _⟩, rfl⟩⟩ rfl trivial
              simp only [Act.put, List.setIfInBounds_toArray, List.set_cons_zero, List.set_cons_succ] at hq
              subst hq
              refine inv_step (fun W hW hd K hK => ?_) (fun v11 aq hq => ?_)
              · obtain ⟨y, rfl⟩ := hW
                have ys := y.size
                have HK := Lib.hid hK
                clear hd hK
                go_wp2_with fail
                exact HK.out _ _ rfl ⟨⟨y, rfl⟩, ⟨⟨y.val, Below.refl _ _⟩, rfl⟩⟩ rfl trivial
              simp only [Act.put, List.setIfInBounds_toArray, List.set_cons_zero, List.set_cons_succ] at hq
              subst hq
              refine inv_step (fun W hW hd K hK => ?_) (fun v12 aq hq => ?_)
              · obtain ⟨y, rfl⟩ := hW
                have ys := y.size
                have HK := Lib.hid hK
                obtain rfl : v11 = .pointer (some ⟨b8, 0, none⟩) := hd 11 (by kernel_rfl)
                clear hd hK
                go_wp2_with fail
                exact HK.out _ _ rfl ⟨⟨y, rfl⟩, ⟨⟨y.val, Below.refl _ _⟩, rfl⟩⟩ rfl trivial
              simp only [Act.put, List.setIfInBounds_toArray, List.set_cons_zero, List.set_cons_succ] at hq
              subst hq
              refine inv_step (fun W hW hd K hK => ?_) (fun v13 aq hq => ?_)
              · obtain ⟨y, rfl⟩ := hW
                have ys := y.size
                have HK := Lib.hid hK
                clear hd hK
                go_wp2_with fail
                exact HK.out _ _ rfl ⟨⟨y, rfl⟩, ⟨⟨y.val, Below.refl _ _⟩, rfl⟩⟩ rfl trivial
              simp only [Act.put, List.setIfInBounds_toArray, List.set_cons_zero, List.set_cons_succ] at hq
              subst hq
              refine inv_step (fun W hW hd K hK => ?_) (fun v14 aq hq => ?_)
              · obtain ⟨y, rfl⟩ := hW
                have ys := y.size
                have HK := Lib.hid hK
                clear hd hK
                go_wp2_with fail
                exact HK.out _ _ rfl ⟨⟨y, rfl⟩, ⟨⟨y.val, Below.refl _ _⟩, rfl⟩⟩ rfl trivial
              simp only [Act.put, List.setIfInBounds_toArray, List.set_cons_zero, List.set_cons_succ] at hq
              subst hq
              refine inv_step (fun W hW hd K hK => ?_) (fun v15 aq hq => ?_)
              · obtain ⟨y, rfl⟩ := hW
                have ys := y.size
                have HK := Lib.hid hK
                obtain rfl : v13 = .slice (some ⟨bt, 0, none⟩) 2 2 := hd 13 (by kernel_rfl)
                obtain rfl : v14 = .int .i64 (j : Int) := hd 14 (by kernel_rfl)
                clear hd hK
                go_wp2_with fail
                exact HK.out _ _ rfl ⟨⟨y, rfl⟩, ⟨⟨y.val, Below.refl _ _⟩, rfl⟩⟩ rfl trivial
              simp only [Act.put, List.setIfInBounds_toArray, List.set_cons_zero, List.set_cons_succ] at hq
              subst hq
              refine inv_step (fun W hW hd K hK => ?_) (fun v16 aq hq => ?_)
              · obtain ⟨y, rfl⟩ := hW
                have ys := y.size
                have HK := Lib.hid hK
                obtain rfl : v15 = .pointer (some ⟨bt, j, none⟩) := hd 15 (by kernel_rfl)
                clear hd hK
                go_wp2_with fail
                exact HK.out _ _ rfl ⟨⟨y, rfl⟩, ⟨⟨y.val, Below.refl _ _⟩, rfl⟩⟩ rfl trivial
              simp only [Act.put, List.setIfInBounds_toArray, List.set_cons_zero, List.set_cons_succ] at hq
              subst hq
              refine inv_step (fun W hW hd K hK => ?_) (fun v17 aq hq => ?_)
              · obtain ⟨y, rfl⟩ := hW
                have ys := y.size
                have HK := Lib.hid hK
                obtain rfl : v9 = .agg #[.slice ua un uc, .slice ra rn rc, .slice ba bn bc] := hd 9 (by kernel_rfl)
                obtain rfl : v10 = .slice (some ⟨bz, 0, none⟩) un un := hd 10 (by kernel_rfl)
                obtain rfl : v12 = .slice ua un uc := hd 12 (by kernel_rfl)
                obtain rfl : v16 = .slice sa sn sc := hd 16 (by kernel_rfl)
                clear hd hK
                go_wp2_with (go_at_call 15; (with_reducible refine Calls.mono (G5.out y.val y.below) ?_); rintro e _ ⟨rfl, ⟨z, rfl⟩⟩)
                exact HK.out _ _ rfl ⟨Cls.step y ⟨z, rfl⟩, ⟨z, rfl⟩⟩ rfl trivial
              simp only [Act.put, List.setIfInBounds_toArray, List.set_cons_zero, List.set_cons_succ] at hq
              subst hq
              refine inv_step (fun W hW hd K hK => ?_) (fun v18 aq hq => ?_)
              · obtain ⟨y, rfl⟩ := hW
                have ys := y.size
                have HK := Lib.hid hK
                obtain rfl : v8 = .bool cb0 := hd 8 (by kernel_rfl)
                obtain rfl : v17 = .bool cb0 := hd 17 (by kernel_rfl)
                clear hd hK
                go_wp2_with fail
                exact HK.out _ _ rfl ⟨⟨y, rfl⟩, ⟨⟨y.val, Below.refl _ _⟩, rfl⟩⟩ rfl trivial
              simp only [Act.put, List.setIfInBounds_toArray, List.set_cons_zero, List.set_cons_succ] at hq
              subst hq
              refine inv_step (fun W hW hd K hK => ?_) (fun v19 aq hq => ?_)
              · obtain ⟨y, rfl⟩ := hW
                have ys := y.size
                have HK := Lib.hid hK
                obtain rfl : v18 = .bool false := hd 18 (by kernel_rfl)
                clear hd hK
                go_wp2_with fail
                exact HK.out _ _ rfl ⟨⟨y, rfl⟩, ⟨⟨y.val, Below.refl _ _⟩, rfl⟩⟩ rfl trivial
              simp only [Act.put, List.setIfInBounds_toArray, List.set_cons_zero, List.set_cons_succ] at hq
              subst hq
              refine inv_step (fun W hW hd K hK => ?_) (fun v20 aq hq => ?_)
              · obtain ⟨y, rfl⟩ := hW
                have ys := y.size
                have HK := Lib.hid hK
                obtain rfl : v19 = .bool false := hd 19 (by kernel_rfl)
                clear hd hK
                go_wp2_with fail
                exact HK.out _ _ rfl ⟨⟨y, rfl⟩, ⟨⟨y.val, Below.refl _ _⟩, rfl⟩⟩ rfl trivial
              simp only [Act.put, List.setIfInBounds_toArray, List.set_cons_zero, List.set_cons_succ] at hq
              subst hq
              refine inv_step (fun W hW hd K hK => ?_) (fun v21 aq hq => ?_)
              · obtain ⟨y, rfl⟩ := hW
                have ys := y.size
                have HK := Lib.hid hK
                obtain rfl : v19 = .bool false := hd 19 (by kernel_rfl)
                clear hd hK
                go_wp2_with fail
                exact HK.out _ _ rfl ⟨⟨y, rfl⟩, ⟨⟨y.val, Below.refl _ _⟩, rfl⟩⟩ rfl trivial
              simp only [Act.put, List.setIfInBounds_toArray, List.set_cons_zero, List.set_cons_succ] at hq
              subst hq
              refine inv_step (fun W hW hd K hK => ?_) (fun v22 aq hq => ?_)
              · obtain ⟨y, rfl⟩ := hW
                have ys := y.size
                have HK := Lib.hid hK
                obtain rfl : v19 = .bool false := hd 19 (by kernel_rfl)
                clear hd hK
                go_wp2_with fail
                exact HK.out _ _ rfl ⟨⟨y, rfl⟩, ⟨⟨y.val, Below.refl _ _⟩, rfl⟩⟩ rfl trivial
              simp only [Act.put, List.setIfInBounds_toArray, List.set_cons_zero, List.set_cons_succ] at hq
              subst hq
              refine inv_step (fun W hW hd K hK => ?_) (fun v23 aq hq => ?_)
              · obtain ⟨y, rfl⟩ := hW
                have ys := y.size
                have HK := Lib.hid hK
                obtain rfl : v19 = .bool false := hd 19 (by kernel_rfl)
                obtain rfl : v22 = .pointer (some ⟨b8, 0, none⟩) := hd 22 (by kernel_rfl)
                clear hd hK
                go_wp2_with fail
                exact HK.out _ _ rfl ⟨⟨y, rfl⟩, ⟨⟨y.val, Below.refl _ _⟩, rfl⟩⟩ rfl trivial
              simp only [Act.put, List.setIfInBounds_toArray, List.set_cons_zero, List.set_cons_succ] at hq
              subst hq
              refine inv_step (fun W hW hd K hK => ?_) (fun v24 aq hq => ?_)
              · obtain ⟨y, rfl⟩ := hW
                have ys := y.size
                have HK := Lib.hid hK
                obtain rfl : v19 = .bool false := hd 19 (by kernel_rfl)
                clear hd hK
                go_wp2_with fail
                exact HK.out _ _ rfl ⟨⟨y, rfl⟩, ⟨⟨y.val, Below.refl _ _⟩, rfl⟩⟩ rfl trivial
              simp only [Act.put, List.setIfInBounds_toArray, List.set_cons_zero, List.set_cons_succ] at hq
              subst hq
              refine inv_step (fun W hW hd K hK => ?_) (fun v25 aq hq => ?_)
              · obtain ⟨y, rfl⟩ := hW
                have ys := y.size
                have HK := Lib.hid hK
                obtain rfl : v19 = .bool false := hd 19 (by kernel_rfl)
                clear hd hK
                go_wp2_with fail
                exact HK.out _ _ rfl ⟨⟨y, rfl⟩, ⟨⟨y.val, Below.refl _ _⟩, rfl⟩⟩ rfl trivial
              simp only [Act.put, List.setIfInBounds_toArray, List.set_cons_zero, List.set_cons_succ] at hq
              subst hq
              refine inv_step (fun W hW hd K hK => ?_) (fun v26 aq hq => ?_)
              · obtain ⟨y, rfl⟩ := hW
                have ys := y.size
                have HK := Lib.hid hK
                obtain rfl : v19 = .bool false := hd 19 (by kernel_rfl)
                obtain rfl : v24 = .slice (some ⟨bt, 0, none⟩) 2 2 := hd 24 (by kernel_rfl)
                obtain rfl : v25 = .int .i64 (j : Int) := hd 25 (by kernel_rfl)
                clear hd hK
                go_wp2_with fail
                exact HK.out _ _ rfl ⟨⟨y, rfl⟩, ⟨⟨y.val, Below.refl _ _⟩, rfl⟩⟩ rfl trivial
              simp only [Act.put, List.setIfInBounds_toArray, List.set_cons_zero, List.set_cons_succ] at hq
              subst hq
              refine inv_step (fun W hW hd K hK => ?_) (fun v27 aq hq => ?_)
              · obtain ⟨y, rfl⟩ := hW
                have ys := y.size
                have HK := Lib.hid hK
                obtain rfl : v19 = .bool false := hd 19 (by kernel_rfl)
                obtain rfl : v26 = .pointer (some ⟨bt, j, none⟩) := hd 26 (by kernel_rfl)
                clear hd hK
                go_wp2_with fail
                exact HK.out _ _ rfl ⟨⟨y, rfl⟩, ⟨⟨y.val, Below.refl _ _⟩, rfl⟩⟩ rfl trivial
              simp only [Act.put, List.setIfInBounds_toArray, List.set_cons_zero, List.set_cons_succ] at hq
              subst hq
              refine inv_step (fun W hW hd K hK => ?_) (fun v28 aq hq => ?_)
              · obtain ⟨y, rfl⟩ := hW
                have ys := y.size
                have HK := Lib.hid hK
                obtain rfl : v19 = .bool false := hd 19 (by kernel_rfl)
                obtain rfl : v20 = .agg #[.slice ua un uc, .slice ra rn rc, .slice ba bn bc] := hd 20 (by kernel_rfl)
                obtain rfl : v21 = .slice la ln lc := hd 21 (by kernel_rfl)
                obtain rfl : v23 = .slice ua un uc := hd 23 (by kernel_rfl)
                obtain rfl : v27 = .slice sa sn sc := hd 27 (by kernel_rfl)
                clear hd hK
                go_wp2_with (go_at_call 14; (with_reducible refine Calls.mono (H4.out y.val y.below) ?_); rintro e _ ⟨rfl, ⟨z, rfl⟩⟩)
                exact HK.out _ _ rfl ⟨Cls.step y ⟨z, rfl⟩, ⟨z, rfl⟩⟩ rfl trivial
              simp only [Act.put, List.setIfInBounds_toArray, List.set_cons_zero, List.set_cons_succ] at hq
              subst hq
              refine inv_step (fun W hW hd K hK => ?_) (fun v29 aq hq => ?_)
              · obtain ⟨y, rfl⟩ := hW
                have ys := y.size
                have HK := Lib.hid hK
                obtain rfl : v19 = .bool false := hd 19 (by kernel_rfl)
                clear hd hK
                go_wp2_with fail
                exact HK.out _ _ rfl ⟨⟨y, rfl⟩, ⟨⟨y.val, Below.refl _ _⟩, rfl⟩⟩ rfl trivial
              simp only [Act.put, List.setIfInBounds_toArray, List.set_cons_zero, List.set_cons_succ] at hq
              subst hq
              refine inv_step (fun W hW hd K hK => ?_) (fun v30 aq hq => ?_)
              · obtain ⟨y, rfl⟩ := hW
                have ys := y.size
                have HK := Lib.hid hK
                obtain rfl : v19 = .bool false := hd 19 (by kernel_rfl)
                clear hd hK
                go_wp2_with fail
                exact HK.out _ _ rfl ⟨⟨y, rfl⟩, ⟨⟨y.val, Below.refl _ _⟩, rfl⟩⟩ rfl trivial
              simp only [Act.put, List.setIfInBounds_toArray, List.set_cons_zero, List.set_cons_succ] at hq
              subst hq
              refine inv_step (fun W hW hd K hK => ?_) (fun v31 aq hq => ?_)
              · obtain ⟨y, rfl⟩ := hW
                have ys := y.size
                have HK := Lib.hid hK
                obtain rfl : v19 = .bool false := hd 19 (by kernel_rfl)
                clear hd hK
                go_wp2_with fail
                exact HK.out _ _ rfl ⟨⟨y, rfl⟩, ⟨⟨y.val, Below.refl _ _⟩, rfl⟩⟩ rfl trivial
              simp only [Act.put, List.setIfInBounds_toArray, List.set_cons_zero, List.set_cons_succ] at hq
              subst hq
              refine inv_step (fun W hW hd K hK => ?_) (fun v32 aq hq => ?_)
              · obtain ⟨y, rfl⟩ := hW
                have ys := y.size
                have HK := Lib.hid hK
                obtain rfl : v19 = .bool false := hd 19 (by kernel_rfl)
                obtain rfl : v31 = .pointer (some ⟨b8, 0, none⟩) := hd 31 (by kernel_rfl)
                clear hd hK
                go_wp2_with fail
                exact HK.out _ _ rfl ⟨⟨y, rfl⟩, ⟨⟨y.val, Below.refl _ _⟩, rfl⟩⟩ rfl trivial
              simp only [Act.put, List.setIfInBounds_toArray, List.set_cons_zero, List.set_cons_succ] at hq
              subst hq
              refine inv_step (fun W hW hd K hK => ?_) (fun v33 aq hq => ?_)
              · obtain ⟨y, rfl⟩ := hW
                have ys := y.size
                have HK := Lib.hid hK
                obtain rfl : v19 = .bool false := hd 19 (by kernel_rfl)
                clear hd hK
                go_wp2_with fail
                exact HK.out _ _ rfl ⟨⟨y, rfl⟩, ⟨⟨y.val, Below.refl _ _⟩, rfl⟩⟩ rfl trivial
              simp only [Act.put, List.setIfInBounds_toArray, List.set_cons_zero, List.set_cons_succ] at hq
              subst hq
              refine inv_step (fun W hW hd K hK => ?_) (fun v34 aq hq => ?_)
              · obtain ⟨y, rfl⟩ := hW
                have ys := y.size
                have HK := Lib.hid hK
                obtain rfl : v19 = .bool false := hd 19 (by kernel_rfl)
                clear hd hK
                go_wp2_with fail
                exact HK.out _ _ rfl ⟨⟨y, rfl⟩, ⟨⟨y.val, Below.refl _ _⟩, rfl⟩⟩ rfl trivial
              simp only [Act.put, List.setIfInBounds_toArray, List.set_cons_zero, List.set_cons_succ] at hq
              subst hq
              refine inv_step (fun W hW hd K hK => ?_) (fun v35 aq hq => ?_)
              · obtain ⟨y, rfl⟩ := hW
                have ys := y.size
                have HK := Lib.hid hK
                obtain rfl : v19 = .bool false := hd 19 (by kernel_rfl)
                obtain rfl : v33 = .slice (some ⟨bt, 0, none⟩) 2 2 := hd 33 (by kernel_rfl)
                obtain rfl : v34 = .int .i64 (j : Int) := hd 34 (by kernel_rfl)
                clear hd hK
                go_wp2_with fail
                exact HK.out _ _ rfl ⟨⟨y, rfl⟩, ⟨⟨y.val, Below.refl _ _⟩, rfl⟩⟩ rfl trivial
              simp only [Act.put, List.setIfInBounds_toArray, List.set_cons_zero, List.set_cons_succ] at hq
              subst hq
              refine inv_step (fun W hW hd K hK => ?_) (fun v36 aq hq => ?_)
              · obtain ⟨y, rfl⟩ := hW
                have ys := y.size
                have HK := Lib.hid hK
                obtain rfl : v19 = .bool false := hd 19 (by kernel_rfl)
                obtain rfl : v35 = .pointer (some ⟨bt, j, none⟩) := hd 35 (by kernel_rfl)
                clear hd hK
                go_wp2_with fail
                exact HK.out _ _ rfl ⟨⟨y, rfl⟩, ⟨⟨y.val, Below.refl _ _⟩, rfl⟩⟩ rfl trivial
              simp only [Act.put, List.setIfInBounds_toArray, List.set_cons_zero, List.set_cons_succ] at hq
              subst hq
              refine inv_step (fun W hW hd K hK => ?_) (fun v37 aq hq => ?_)
              · obtain ⟨y, rfl⟩ := hW
                have ys := y.size
                have HK := Lib.hid hK
                obtain rfl : v19 = .bool false := hd 19 (by kernel_rfl)
                obtain rfl : v29 = .agg #[.slice ua un uc, .slice ra rn rc, .slice ba bn bc] := hd 29 (by kernel_rfl)
                obtain rfl : v30 = .slice la ln lc := hd 30 (by kernel_rfl)
                obtain rfl : v32 = .slice ua un uc := hd 32 (by kernel_rfl)
                obtain rfl : v36 = .slice sa sn sc := hd 36 (by kernel_rfl)
                clear hd hK
                go_wp2_with (go_at_call 15; (with_reducible refine Calls.mono (H5.out y.val y.below) ?_); rintro e _ ⟨rfl, ⟨z, rfl⟩⟩)
                exact HK.out _ _ rfl ⟨Cls.step y ⟨z, rfl⟩, ⟨z, rfl⟩⟩ rfl trivial
              simp only [Act.put, List.setIfInBounds_toArray, List.set_cons_zero, List.set_cons_succ] at hq
              subst hq
              refine inv_step (fun W hW hd K hK => ?_) (fun v38 aq hq => ?_)
              · obtain ⟨y, rfl⟩ := hW
                have ys := y.size
                have HK := Lib.hid hK
                obtain rfl : v19 = .bool false := hd 19 (by kernel_rfl)
                obtain rfl : v28 = .bool cb1 := hd 28 (by kernel_rfl)
                obtain rfl : v37 = .bool cb1 := hd 37 (by kernel_rfl)
                clear hd hK
                go_wp2_with fail
                exact HK.out _ _ rfl ⟨⟨y, rfl⟩, ⟨⟨y.val, Below.refl _ _⟩, rfl⟩⟩ rfl trivial
              simp only [Act.put, List.setIfInBounds_toArray, List.set_cons_zero, List.set_cons_succ] at hq
              subst hq
              refine inv_step (fun W hW hd K hK => ?_) (fun v39 aq hq => ?_)
              · obtain ⟨y, rfl⟩ := hW
                have ys := y.size
                have HK := Lib.hid hK
                obtain rfl : v19 = .bool false := hd 19 (by kernel_rfl)
                obtain rfl : v38 = .bool false := hd 38 (by kernel_rfl)
                clear hd hK
                go_wp2_with fail
                exact HK.out _ _ rfl ⟨⟨y, rfl⟩, ⟨⟨y.val, Below.refl _ _⟩, rfl⟩⟩ rfl trivial
              simp only [Act.put, List.setIfInBounds_toArray, List.set_cons_zero, List.set_cons_succ] at hq
              subst hq
              refine inv_nil fun W hW hT hR => ?_
              obtain ⟨y, rfl⟩ := hW
              have ys := y.size
              obtain rfl : v39 = .bool false := hT 39 (by decide)
              clear hT hR
              go_wp2_with fail
              go_roundw
              case rel => exact ⟨j + 1, by go_num, by omega, ⟨y.val, y.on HB6.out (by omega)⟩, rfl⟩
              case measure => simp [intOf]; omega
        · have d5 : decide ((j : Int) < 2) = false := decide_eq_false (by omega)
          have d6 : ¬ (j : Int) < 2 := by omega
          go_wp2_with fail
          go_ret
          exact ⟨rfl, x.on HBW.out HBW.out.size⟩
end Go.Proofs.Ythbdkhmgopahbaa
