/-
  The program's CheckSolution. Whole numbers as fractions, in the program and in the reference, and what of a solution in whole numbers. The program's and the reference's Check of whole numbers. The law of solutions in whole numbers, walked.
-/
import Derived.Test.YtilhhbjdcdediaaJ18
import Derived.Test.YtilhhbjdcdediaaJ29
import Derived.Test.YtilhhbjdcdediaaJ24
import Derived.Test.YtilhhbjdcdediaaJ30
import Derived.Test.YtilhhbjdcdediaaJ31
import Derived.Test.YtilhhbjdcdediaaJ23
import Derived.WalkKit
set_option linter.unusedVariables false
namespace Go.Proofs.Ytilhhbjdcdediaa
open Go Go.RowKit Go.Deep
set_option maxHeartbeats 2000000 in
set_option maxRecDepth 20000 in
theorem lwhole_calls (n : Int) (w : World) :
    Calls Try.prog 75 #[.int .i64 n] w fun e w' => e = .returned (.agg #[.int .i64 n, .int .i64 1]) ∧ Cls w w' := by
  go_enter Try.func75, Try.ntmps75
  go_wp2_with fail
  refine ret_ex rfl ?_
  simp [results, Try.results75, go_sem]
  refine Cls.of ?_
  repeat first | with_reducible exact Below.refl _ _ | with_reducible refine Below.setCell ?_ (by first | omega | (simp; done) | (simp; omega)) _ | with_reducible refine Below.alloc ?_ (by first | omega | (simp; done) | (simp; omega)) _ | with_reducible refine Below.drew ?_ | with_reducible refine Ext.on _ ?_ (by first | omega | (simp; done) | (simp; omega))
set_option maxHeartbeats 16000000 in
set_option maxRecDepth 20000 in
theorem lcheck_calls (y : Sy) (a : Option Addr) (n c : Nat) (fn fd : Nat → Int) (w : World) (h : SysA w y) (hx : FrsA w ⟨a, n, c⟩ fn fd) (hi : ∀ i, i < n → In64 (fn i) ∧ In64 (fd i)) (hn : n ≤ 90) :
    Calls Try.prog 43 #[y.v, .slice a n c] w fun e w' => e = .returned (.bool (csB y n fn fd)) ∧ Cls w w' := by
  have C1 := Lib.hid (fun (W : World) (hb : Below w.heap.size w W) => lValid_calls y W (h.later hb))
  have C2 := Lib.hid (fun (W : World) (hb : Below w.heap.size w W) => allValid_calls a n c fn fd W (hx.later hb) hi)
  have C3 := Lib.hid (fun (up : Int) (W : World) => lwhole_calls up W)
  by_cases h1 : vaS y = 0
  case neg =>
    have e : csB y n fn fd = false := by unfold csB; rw [show (vaS y == 0) = false by simpa using h1]; rfl
    have d1 : (vaS y != 0) = true := by simpa using h1
    rw [e]
    unfold Sy.v at *
    clear e h1 C2 C3 h hx hi
    generalize vaS y = va at *
    generalize y.U.a = ua at *
    generalize y.U.len = un at *
    generalize y.U.cap = uc at *
    generalize y.R.a = ra at *
    generalize y.R.len = rn at *
    generalize y.R.cap = rc at *
    generalize y.B.a = ba at *
    generalize y.B.len = bn at *
    generalize y.B.cap = bc at *
    go_enter Try.func43, Try.ntmps43
    go_wp2_with (go_at_call 24; (with_reducible refine Calls.mono (C1.out _ ?_) ?_); (focus (repeat first | with_reducible exact Below.refl _ _ | with_reducible refine Below.setCell ?_ (by first | omega | (simp; done) | (simp; omega)) _ | with_reducible refine Below.alloc ?_ (by first | omega | (simp; done) | (simp; omega)) _ | with_reducible refine Below.drew ?_ | with_reducible refine Ext.on _ ?_ (by first | omega | (simp; done) | (simp; omega)))); rintro e _ ⟨rfl, ⟨x, rfl⟩⟩)
    go_ret
    refine ⟨rfl, Cls.of ?_⟩
    repeat first | with_reducible exact Below.refl _ _ | with_reducible refine Below.setCell ?_ (by first | omega | (simp; done) | (simp; omega)) _ | with_reducible refine Below.alloc ?_ (by first | omega | (simp; done) | (simp; omega)) _ | with_reducible refine Below.drew ?_ | with_reducible refine Ext.on _ ?_ (by first | omega | (simp; done) | (simp; omega))
  case pos =>
    have V := vaS_zero h1
    have e1 : csB y n fn fd = ((((n : Nat) : Int) == ((y.U.len : Nat) : Int)) && (!anyB (bX y fn fd) n && !anyB (bE y fn fd n) y.R.len)) := by unfold csB; rw [h1]; rfl
    rw [h1] at C1
    rw [e1]
    clear e1 h1
    by_cases h2 : n = y.U.len
    case neg =>
      have d2 : ((n : Int) != ((y.U.len : Nat) : Int)) = true := by simp; omega
      have d3 : ((n : Int) == ((y.U.len : Nat) : Int)) = false := by simp; omega
      rw [d3, Bool.false_and]
      unfold Sy.v at *
      clear d3 h2 C2 C3 h hx hi V
      generalize y.U.a = ua at *
      generalize y.U.len = un at *
      generalize y.U.cap = uc at *
      generalize y.R.a = ra at *
      generalize y.R.len = rn at *
      generalize y.R.cap = rc at *
      generalize y.B.a = ba at *
      generalize y.B.len = bn at *
      generalize y.B.cap = bc at *
      go_enter Try.func43, Try.ntmps43
      go_wp2_with (go_at_call 24; (with_reducible refine Calls.mono (C1.out _ ?_) ?_); (focus (repeat first | with_reducible exact Below.refl _ _ | with_reducible refine Below.setCell ?_ (by first | omega | (simp; done) | (simp; omega)) _ | with_reducible refine Below.alloc ?_ (by first | omega | (simp; done) | (simp; omega)) _ | with_reducible refine Below.drew ?_ | with_reducible refine Ext.on _ ?_ (by first | omega | (simp; done) | (simp; omega)))); rintro e _ ⟨rfl, ⟨x, rfl⟩⟩; have xs := x.size; (try simp at xs); have xa : w.heap.size < x.val.heap.size := (by omega); obtain ⟨_, c0, c1, c2⟩ := three_s ((x.below.block w.heap.size (by simp)).trans (heap_alloc_new w _)))
      go_ret
      refine ⟨rfl, Cls.of ?_⟩
      repeat first | with_reducible exact Below.refl _ _ | with_reducible refine Below.setCell ?_ (by first | omega | (simp; done) | (simp; omega)) _ | with_reducible refine Below.alloc ?_ (by first | omega | (simp; done) | (simp; omega)) _ | with_reducible refine Below.drew ?_ | with_reducible refine Ext.on _ ?_ (by first | omega | (simp; done) | (simp; omega))
    case pos =>
      have d2 : ((n : Int) != ((y.U.len : Nat) : Int)) = false := by simp; omega
      have d3 : ((n : Int) == ((y.U.len : Nat) : Int)) = true := by simp; omega
      rw [d3, Bool.true_and]
      clear d3
      cases h3 : anyB (fun i => !vaB (fn i) (fd i)) n
      case true =>
        have e : anyB (bX y fn fd) n = true := by
          obtain ⟨i, hi, hp⟩ := anyB_iff.1 h3
          exact anyB_iff.2 ⟨i, hi, by unfold bX; rw [hp]; rfl⟩
        rw [h3] at C2
        rw [e]
        simp only [Bool.not_true, Bool.false_and]
        unfold Sy.v at *
        clear e C3 h hx hi V h3 h2
        generalize y.U.a = ua at *
        generalize y.U.len = un at *
        generalize y.U.cap = uc at *
        generalize y.R.a = ra at *
        generalize y.R.len = rn at *
        generalize y.R.cap = rc at *
        generalize y.B.a = ba at *
        generalize y.B.len = bn at *
        generalize y.B.cap = bc at *
        go_enter Try.func43, Try.ntmps43
        go_wp2_with (first | (go_at_call 24; (with_reducible refine Calls.mono (C1.out _ ?_) ?_); (focus (repeat first | with_reducible exact Below.refl _ _ | with_reducible refine Below.setCell ?_ (by first | omega | (simp; done) | (simp; omega)) _ | with_reducible refine Below.alloc ?_ (by first | omega | (simp; done) | (simp; omega)) _ | with_reducible refine Below.drew ?_ | with_reducible refine Ext.on _ ?_ (by first | omega | (simp; done) | (simp; omega)))); rintro e _ ⟨rfl, ⟨x, rfl⟩⟩; have xs := x.size; (try simp at xs); have xa : w.heap.size < x.val.heap.size := (by omega); obtain ⟨_, c0, c1, c2⟩ := three_s ((x.below.block w.heap.size (by simp)).trans (heap_alloc_new w _))) | (go_at_call 25; (with_reducible refine Calls.mono (C2.out _ ?_) ?_); (focus (repeat first | with_reducible exact Below.refl _ _ | with_reducible refine Below.setCell ?_ (by first | omega | (simp; done) | (simp; omega)) _ | with_reducible refine Below.alloc ?_ (by first | omega | (simp; done) | (simp; omega)) _ | with_reducible refine Below.drew ?_ | with_reducible refine Ext.on _ ?_ (by first | omega | (simp; done) | (simp; omega)))); rintro e _ ⟨rfl, ⟨x2, rfl⟩⟩))
        go_ret
        refine ⟨rfl, Cls.of ?_⟩
        repeat first | with_reducible exact Below.refl _ _ | with_reducible refine Below.setCell ?_ (by first | omega | (simp; done) | (simp; omega)) _ | with_reducible refine Below.alloc ?_ (by first | omega | (simp; done) | (simp; omega)) _ | with_reducible refine Below.drew ?_ | with_reducible refine Ext.on _ ?_ (by first | omega | (simp; done) | (simp; omega))
      case false =>
        rw [h3] at C2
        have hva := anyB_no.1 h3
        have HVA : Hid (∀ i, i < n → vaB (fn i) (fd i) = true) := Lib.hid fun i hi => by simpa using hva i hi
        clear hva h3
        have CT : Hid (∀ (i : Nat), i < y.R.len → ∀ W, Below w.heap.size w W → Calls Try.prog 26 #[.slice (y.row i).a (y.row i).len (y.row i).cap, .slice a n c] W (SumR W (totN (y.co i) fn (fdN fd) n) (totD (fdN fd) n))) := Lib.hid fun i hi W hW => by
          have hr := V.row i hi
          have hrow := (h.R.2.2.1 i hi).later hW
          have := total_calls (y.row i).a (y.row i).len (y.row i).cap (y.co i) a n c fn fd W hrow (hx.later hW) (by omega) (by omega) (fun k hk => by have := V.co i hi k (by omega); omega) (fun k hk => HVA.out k (by omega))
          rw [hr, ← h2] at this ⊢
          exact this
        have CC : Hid (∀ (i : Nat), i < y.R.len → ∀ (W : World) (g : Bool) (s t : Sl), IAt W g s (frI (totN (y.co i) fn (fdN fd) n) (totD (fdN fd) n)) → NatAt W t (frd (totN (y.co i) fn (fdN fd) n) (totD (fdN fd) n)) → Calls Try.prog 36 #[.agg #[.bool g, .slice s.a s.len s.cap, .slice t.a t.len t.cap], .agg #[.int .i64 (y.rt i), .int .i64 1]] W fun e w' => ∃ r, e = .returned (.int .i64 r) ∧ (r != 0) = bE y fn fd n i ∧ Cls W w') := Lib.hid fun i hi W g s t hs ht => by
          have hD : 0 < totD (fdN fd) n := totD_pos n fun k hk => by have := (vaB_rng (HVA.out k hk)).1; show 0 < (fd k).natAbs; omega
          have hN : (totN (y.co i) fn (fdN fd) n).natAbs < wp 200 := wp_mono (totN_lt n fun k hk => by
            obtain ⟨b1, b2, b3, b4⟩ := vaB_rng (HVA.out k hk)
            have := V.co i hi k (by omega)
            show (fd k).natAbs < _ ∧ _ ∧ _
            omega) (by omega)
          have hDw : totD (fdN fd) n < wp 200 := wp_mono (totD_lt n fun k hk => by
            obtain ⟨b1, b2, b3, b4⟩ := vaB_rng (HVA.out k hk)
            show (fd k).natAbs < _
            omega) (by omega)
          have hrt := V.rt i hi
          refine (lcmp_calls g s.a s.len s.cap t.a t.len t.cap _ _ (y.rt i) 1 W hs ht hD hN hDw (whole_va hrt.1 hrt.2)).mono fun e w' ⟨he, hc⟩ => ⟨_, he, ?_, hc⟩
          rw [cmp_zero]
          unfold bE
          rw [show ((1 : Nat) : Int) = 1 from rfl, Int.mul_one]
        have EX : Hid (∀ k, k < n → bX y fn fd k = (decide (fn k < 0) || decide (0 < cpF (fn k) (fd k) (y.up k) 1))) := Lib.hid fun k hk => by
          have hu := V.up k (by omega)
          rw [cp_up (HVA.out k hk) hu.1 hu.2]
          unfold bX
          rw [HVA.out k hk]
          rfl
        have CP : Hid (∀ k, k < n → ∀ W, Calls Try.prog 74 #[.agg #[.int .i64 (fn k), .int .i64 (fd k)], .agg #[.int .i64 (y.up k), .int .i64 1]] W fun e w' => e = .returned (.int .i64 (cpF (fn k) (fd k) (y.up k) 1)) ∧ Cls W w') := Lib.hid fun k hk W => by
          have hu := V.up k (by omega)
          have hii := hi k hk
          exact Compare_calls (fn k) (fd k) (y.up k) 1 W hii.1.1 hii.1.2 hii.2.1 hii.2.2 (by omega) (by omega) (by omega) (by omega)
        obtain ⟨_, um, hu⟩ := h.U
        obtain ⟨_, rm, hrow, hr⟩ := h.R
        obtain ⟨_, bm, hb⟩ := h.B
        obtain ⟨_, xm, hxx⟩ := hx
        have hbn := V.b
        unfold maxLen at um rm bm xm
        unfold Sy.v at *
        have HU := Lib.hid hu
        have HR := Lib.hid hr
        have HB2 := Lib.hid hb
        have HX := Lib.hid hxx
        clear hu hr hrow hb hxx h hi V HVA
        generalize bX y fn fd = pX at *
        generalize bE y fn fd n = pE at *
        obtain ⟨⟨ua, un, uc⟩, ⟨ra, rn, rc⟩, ⟨ba, bn, bc⟩, up, row, co, rt⟩ := y
        simp only at *
        subst h2
        subst hbn
        clear d2
        have d2 : ((n : Int) != (n : Int)) = false := by simp
        go_enter Try.func43, Try.ntmps43
        go_wp2_with (first | (go_at_call 24; (with_reducible refine Calls.mono (C1.out _ ?_) ?_); (focus (repeat first | with_reducible exact Below.refl _ _ | with_reducible refine Below.setCell ?_ (by first | omega | (simp; done) | (simp; omega)) _ | with_reducible refine Below.alloc ?_ (by first | omega | (simp; done) | (simp; omega)) _ | with_reducible refine Below.drew ?_ | with_reducible refine Ext.on _ ?_ (by first | omega | (simp; done) | (simp; omega)))); rintro e _ ⟨rfl, ⟨x, rfl⟩⟩; have xs := x.size; (try simp at xs); have xa : w.heap.size < x.val.heap.size := (by omega); obtain ⟨_, c0, c1, c2⟩ := three_s ((x.below.block w.heap.size (by simp)).trans (heap_alloc_new w _))) | (go_at_call 25; (with_reducible refine Calls.mono (C2.out _ ?_) ?_); (focus (repeat first | with_reducible exact Below.refl _ _ | with_reducible refine Below.setCell ?_ (by first | omega | (simp; done) | (simp; omega)) _ | with_reducible refine Below.alloc ?_ (by first | omega | (simp; done) | (simp; omega)) _ | with_reducible refine Below.drew ?_ | with_reducible refine Ext.on _ ?_ (by first | omega | (simp; done) | (simp; omega)))); rintro e _ ⟨rfl, ⟨x2, rfl⟩⟩))
        go_loopw [27] (fun i wr => ∃ j : Nat, j ≤ n ∧ i = .int .i64 j ∧ Hid (fstI pX 0 n = fstI pX j (n - j)) ∧ Cls (w.alloc (.cells #[.slice ua n uc, .slice ra bn rc, .slice ba bn bc] 30)) wr) (fun i _ => n - (intOf i).toNat)
        case atStart => exact ⟨0, Nat.zero_le _, rfl, Lib.hid rfl, Cls.step x ⟨x2, rfl⟩⟩
        case round =>
          obtain ⟨j, hj, rfl, HE, x, rfl⟩ := hrel
          obtain ⟨hx0, c0, c1, c2⟩ := three_s ((x.below.block w.heap.size (by simp)).trans (heap_alloc_new w _))
          have xs := x.size
          simp at xs
          by_cases hltj : j < n
          · have hS : Hid (n - j = (n - (j + 1)) + 1) := Lib.hid (by omega)
            have HIT : Hid (pX j = true → anyB pX n = true) := Lib.hid fun hp => anyB_iff.2 ⟨j, hltj, hp⟩
            have NXT : Hid (pX j = false → fstI pX 0 n = fstI pX (j + 1) (n - (j + 1))) := Lib.hid fun hp => by rw [HE.out, hS.out, fstI_go hp]
            clear HE hS
            obtain ⟨b, off, ha, hb2, hc⟩ := HX.out.resolve_left (by omega)
            obtain ⟨bb, offb, ha', hb2', hc'⟩ := HU.out.resolve_left (by omega)
            subst ha ha'
            obtain ⟨r0, r1⟩ := hc j hltj
            have r2 := hc' j hltj
            have q0 := (x.below.cell (p := ⟨b, off + j * 2, none⟩) (by simp; omega)).trans (((Below.refl w.heap.size w).alloc (Nat.le_refl _) _).cell (p := ⟨b, off + j * 2, none⟩) hb2 |>.trans r0)
            have q1 := (x.below.cell (p := ⟨b, off + j * 2 + 1, none⟩) (by simp; omega)).trans (((Below.refl w.heap.size w).alloc (Nat.le_refl _) _).cell (p := ⟨b, off + j * 2 + 1, none⟩) hb2 |>.trans r1)
            have q2 := (x.below.cell (p := ⟨bb, offb + j, none⟩) (by simp; omega)).trans (((Below.refl w.heap.size w).alloc (Nat.le_refl _) _).cell (p := ⟨bb, offb + j, none⟩) hb2' |>.trans r2)
            have hbx : b < x.val.heap.size := (by omega)
            have hbx' : bb < x.val.heap.size := (by omega)
            have EXj := EX.out j hltj
            have CPj := Lib.hid (CP.out j hltj)
            clear hc hc' r0 r1 r2 C1 C2 CT CC HR HB2
            generalize cpF (fn j) (fd j) (up j) 1 = cr at *
            generalize fn j = fj at *
            generalize fd j = gj at *
            generalize up j = uj at *
            have HEX := Lib.hid EXj
            clear EXj
            by_cases hz : fj < 0
            · have d1 : decide (fj < 0) = true := decide_eq_true hz
              have HV := Lib.hid (HIT.out (by rw [HEX.out, d1]; rfl))
              clear HIT NXT
              go_wp2_with fail
              refine wp_region_ext (by kernel_rfl) (by kernel_rfl) ?_
              repeat (go_big_quiet_step (first | (go_at_call 75; with_reducible exact Cls.call (C3.out _ _)) | (go_at_call 74; with_reducible exact Cls.call (CPj.out _))))
              refine wpQuiet_nil ?_
              rintro _ ⟨z, rfl⟩
              go_wp2_with fail
              go_ret
              refine ⟨ret_bool (by rw [HV.out]; simp), Cls.of ?_⟩
              repeat first | with_reducible exact Below.refl _ _ | with_reducible refine Below.setCell ?_ (by first | omega | (simp; done) | (simp; omega)) _ | with_reducible refine Below.alloc ?_ (by first | omega | (simp; done) | (simp; omega)) _ | with_reducible refine Below.drew ?_ | with_reducible refine Ext.on _ ?_ (by first | omega | (simp; done) | (simp; omega))
            · have d1 : decide (fj < 0) = false := decide_eq_false hz
              by_cases hcr : 0 < cr
              · have d3 : decide (0 < cr) = true := decide_eq_true hcr
                have HV := Lib.hid (HIT.out (by rw [HEX.out, d3]; simp))
                clear HIT NXT
                go_wp2_with fail
                refine wp_region_ext (by kernel_rfl) (by kernel_rfl) ?_
                repeat (go_big_quiet_step (first | (go_at_call 75; with_reducible exact Cls.call (C3.out _ _)) | (go_at_call 74; with_reducible exact Cls.call (CPj.out _))))
                refine wpQuiet_nil ?_
                rintro _ ⟨z, rfl⟩
                go_wp2_with fail
                go_ret
                refine ⟨ret_bool (by rw [HV.out]; simp), Cls.of ?_⟩
                repeat first | with_reducible exact Below.refl _ _ | with_reducible refine Below.setCell ?_ (by first | omega | (simp; done) | (simp; omega)) _ | with_reducible refine Below.alloc ?_ (by first | omega | (simp; done) | (simp; omega)) _ | with_reducible refine Below.drew ?_ | with_reducible refine Ext.on _ ?_ (by first | omega | (simp; done) | (simp; omega))
              · have d3 : decide (0 < cr) = false := decide_eq_false hcr
                have HN := Lib.hid (NXT.out (by rw [HEX.out, d1, d3]; rfl))
                clear HIT NXT
                go_wp2_with fail
                refine wp_region_ext (by kernel_rfl) (by kernel_rfl) ?_
                repeat (go_big_quiet_step (first | (go_at_call 75; with_reducible exact Cls.call (C3.out _ _)) | (go_at_call 74; with_reducible exact Cls.call (CPj.out _))))
                refine wpQuiet_nil ?_
                rintro _ ⟨z, rfl⟩
                go_wp2_with fail
                go_roundw
                case rel => exact ⟨j + 1, by omega, by go_num, HN, Cls.of (by repeat first | with_reducible exact Below.refl _ _ | with_reducible refine Below.setCell ?_ (by first | omega | (simp; done) | (simp; omega)) _ | with_reducible refine Below.alloc ?_ (by first | omega | (simp; done) | (simp; omega)) _ | with_reducible refine Below.drew ?_ | with_reducible refine Ext.on _ ?_ (by first | omega | (simp; done) | (simp; omega)))⟩
                case measure => simp [intOf]; omega
          · have HZ : Hid (anyB pX n = false) := Lib.hid (by unfold anyB; rw [HE.out, show n - j = 0 by omega]; rfl)
            clear HE
            have HZ1 := HZ
            clear HZ EX CP HX HU
            go_wp2_with fail
            go_loopw [50] (fun i wr => ∃ j : Nat, j ≤ bn ∧ i = .int .i64 j ∧ Hid (fstI pE 0 bn = fstI pE j (bn - j)) ∧ Cls (w.alloc (.cells #[.slice ua n uc, .slice ra bn rc, .slice ba bn bc] 30)) wr) (fun i _ => bn - (intOf i).toNat)
            case atStart => exact ⟨0, Nat.zero_le _, rfl, Lib.hid rfl, x, rfl⟩
            case round =>
              obtain ⟨j, hj, rfl, HE, x, rfl⟩ := hrel
              obtain ⟨hx0, c0, c1, c2⟩ := three_s ((x.below.block w.heap.size (by simp)).trans (heap_alloc_new w _))
              have xs := x.size
              simp at xs
              by_cases hltj : j < bn
              · have hS : Hid (bn - j = (bn - (j + 1)) + 1) := Lib.hid (by omega)
                have HIT : Hid (pE j = true → anyB pE bn = true) := Lib.hid fun hp => anyB_iff.2 ⟨j, hltj, hp⟩
                have NXT : Hid (pE j = false → fstI pE 0 bn = fstI pE (j + 1) (bn - (j + 1))) := Lib.hid fun hp => by rw [HE.out, hS.out, fstI_go hp]
                clear HE hS
                obtain ⟨b, off, ha, hb2, hc⟩ := HR.out.resolve_left (by omega)
                obtain ⟨bb, offb, ha', hb2', hc'⟩ := HB2.out.resolve_left (by omega)
                subst ha ha'
                have r0 := hc j hltj
                have r2 := hc' j hltj
                have q0 := (x.below.cell (p := ⟨b, off + j, none⟩) (by simp; omega)).trans (((Below.refl w.heap.size w).alloc (Nat.le_refl _) _).cell (p := ⟨b, off + j, none⟩) hb2 |>.trans r0)
                have q2 := (x.below.cell (p := ⟨bb, offb + j, none⟩) (by simp; omega)).trans (((Below.refl w.heap.size w).alloc (Nat.le_refl _) _).cell (p := ⟨bb, offb + j, none⟩) hb2' |>.trans r2)
                have hbx : b < x.val.heap.size := (by omega)
                have hbx' : bb < x.val.heap.size := (by omega)
                have CTj := Lib.hid (CT.out j hltj)
                have CCj := Lib.hid (CC.out j hltj)
                clear hc hc' r0 r2 C1 C2 CT CC
                generalize totN (co j) fn (fdN fd) n = N1 at *
                generalize totD (fdN fd) n = D1 at *
                generalize row j = tj at *
                generalize rt j = rj at *
                obtain ⟨ta, tn, tc⟩ := tj
                simp only at q0 CTj
                go_wp2_with fail
                go_region_held3 (fun w' => w'.cell? ⟨w.heap.size, 2, none⟩ = some (.slice (some ⟨bb, offb, none⟩) bn bc) ∧ w'.cell? ⟨bb, offb + j, none⟩ = some (.int .i64 rj))
                  (first | (go_keep; done) | (refine ⟨?_, ?_⟩ <;> (rw [Ext.cell _ _ (by first | (simp; done) | (simp; omega) | omega)]; simp [*]; done)))
                  (first
                    | (go_at_call 26; (with_reducible refine Calls.mono (CTj.out _ ?_) ?_); (focus (repeat first | with_reducible exact Below.refl _ _ | with_reducible refine Below.setCell ?_ (by first | omega | (simp; done) | (simp; omega)) _ | with_reducible refine Below.alloc ?_ (by first | omega | (simp; done) | (simp; omega)) _ | with_reducible refine Below.drew ?_ | with_reducible refine Ext.on _ ?_ (by first | omega | (simp; done) | (simp; omega)))); rintro e _ ⟨g, s, t, rfl, hs, ht, ⟨y1, rfl⟩⟩; have y1s := y1.size; (try simp at y1s); have y1a : w.heap.size < y1.val.heap.size := (by omega); have y1b : b < y1.val.heap.size := (by omega); have y1c : bb < y1.val.heap.size := (by omega))
                    | (go_at_call 75; (with_reducible refine Calls.mono (C3.out _ _) ?_); rintro e _ ⟨rfl, ⟨y2, rfl⟩⟩; have y2s := y2.size; (try simp at y2s); have y2a : w.heap.size < y2.val.heap.size := (by omega); have y2b : b < y2.val.heap.size := (by omega); have y2c : bb < y2.val.heap.size := (by omega))
                    | (go_at_call 36; have G := Lib.hid (fun W hb => CCj.out W g s t (hs.later hb) (ht.later hb)); (with_reducible refine Calls.mono (G.out _ ?_) ?_); (focus (repeat first | with_reducible exact Below.refl _ _ | with_reducible refine Below.setCell ?_ (by first | omega | (simp; done) | (simp; omega)) _ | with_reducible refine Below.alloc ?_ (by first | omega | (simp; done) | (simp; omega)) _ | with_reducible refine Below.drew ?_ | with_reducible refine Ext.on _ ?_ (by first | omega | (simp; done) | (simp; omega)))); rintro e _ ⟨r, rfl, hr, ⟨y3, rfl⟩⟩; have y3s := y3.size; (try simp at y3s); have y3a : w.heap.size < y3.val.heap.size := (by omega); have y3b : b < y3.val.heap.size := (by omega); have y3c : bb < y3.val.heap.size := (by omega); clear G))
                all_goals
                  have HB3 : Below (w.alloc (.cells #[.slice ua n uc, .slice (some ⟨b, off, none⟩) bn rc, .slice (some ⟨bb, offb, none⟩) bn bc] 30)).heap.size (w.alloc (.cells #[.slice ua n uc, .slice (some ⟨b, off, none⟩) bn rc, .slice (some ⟨bb, offb, none⟩) bn bc] 30)) y3.val := by repeat first | with_reducible exact Below.refl _ _ | with_reducible refine Below.setCell ?_ (by first | omega | (simp; done) | (simp; omega)) _ | with_reducible refine Below.alloc ?_ (by first | omega | (simp; done) | (simp; omega)) _ | with_reducible refine Below.drew ?_ | with_reducible refine Ext.on _ ?_ (by first | omega | (simp; done) | (simp; omega))
                  have HB4 : Below w.heap.size w y3.val := by repeat first | with_reducible exact Below.refl _ _ | with_reducible refine Below.setCell ?_ (by first | omega | (simp; done) | (simp; omega)) _ | with_reducible refine Below.alloc ?_ (by first | omega | (simp; done) | (simp; omega)) _ | with_reducible refine Below.drew ?_ | with_reducible refine Ext.on _ ?_ (by first | omega | (simp; done) | (simp; omega))
                  cases hbb : pE j
                  · rw [hbb] at hr
                    have HN := Lib.hid (NXT.out hbb)
                    clear hbb HIT NXT
                    go_wp2_with fail
                    go_roundw
                    case rel => exact ⟨j + 1, by omega, by go_num, HN, Cls.of HB3⟩
                    case measure => simp [intOf]; omega
                  · rw [hbb] at hr
                    have HV := Lib.hid (HIT.out hbb)
                    clear hbb HIT NXT
                    go_wp2_with fail
                    go_ret
                    exact ⟨ret_bool (by rw [HV.out, HZ1.out]; simp), Cls.of HB4⟩
              · have HZ : Hid (anyB pE bn = false) := Lib.hid (by unfold anyB; rw [HE.out, show bn - j = 0 by omega]; rfl)
                clear HE
                go_wp2_with fail
                go_ret
                refine ⟨ret_bool (by rw [HZ.out, HZ1.out]; rfl), Cls.of ?_⟩
                repeat first | with_reducible exact Below.refl _ _ | with_reducible refine Below.setCell ?_ (by first | omega | (simp; done) | (simp; omega)) _ | with_reducible refine Below.alloc ?_ (by first | omega | (simp; done) | (simp; omega)) _ | with_reducible refine Below.drew ?_ | with_reducible refine Ext.on _ ?_ (by first | omega | (simp; done) | (simp; omega))
end Go.Proofs.Ytilhhbjdcdediaa
set_option linter.unusedVariables false
namespace Go.Proofs.Ytilhhbjdcdediaa
open Go Go.RowKit Go.Deep
set_option maxRecDepth 20000 in
theorem whole_calls (n : Int) (w : World) : Calls Try.prog 76 #[.int .i64 n] w fun e w' => e = .returned (.agg #[.int .i64 n, .int .i64 1]) ∧ Cls w w' := by
  go_enter Try.func76, Try.ntmps76
  go_wp2_with fail
  refine ret_ex rfl ⟨.agg #[.int .i64 n, .int .i64 1], by simp [results, Try.results76, go_sem], rfl, Cls.of ?_⟩
  repeat first | with_reducible exact Below.refl _ _ | with_reducible refine Below.setCell ?_ (by first | omega | (simp; done) | (simp; omega)) _ | with_reducible refine Below.alloc ?_ (by first | omega | (simp; done) | (simp; omega)) _ | with_reducible refine Below.drew ?_ | with_reducible refine Ext.on _ ?_ (by first | omega | (simp; done) | (simp; omega))
set_option maxHeartbeats 8000000 in
set_option maxRecDepth 20000 in
theorem wholes_calls (a : Option Addr) (n c : Nat) (f : Nat → Int) (w : World) (h : IntsA w ⟨a, n, c⟩ f) (hn : n ≤ 1000) :
    Calls Try.prog 44 #[.slice a n c] w fun e w' => ∃ b : Nat, e = .returned (.slice (some ⟨b, 0, none⟩) n n) ∧ FrsA w' ⟨some ⟨b, 0, none⟩, n, n⟩ f (fun _ => 1) ∧ Cls w w' := by
  obtain ⟨hle, hmax, hh⟩ := h
  unfold maxLen at hmax
  simp only at hle hmax hh
  have HX := Lib.hid hh
  have CWH := Lib.hid whole_calls
  have hmk := make_frs n (by omega)
  clear hh
  go_enter Try.func44, Try.ntmps44
  go_wp2_with fail
  go_loopw [11] (fun i wr => ∃ k : Nat, k ≤ n ∧ i = .int .i64 k ∧ Hid (FrsUp wr w.heap.size n k f (fun _ => 1)) ∧ Hid (Below w.heap.size w wr)) (fun i _ => n - (intOf i).toNat)
  case atStart => exact ⟨0, Nat.zero_le _, rfl, Lib.hid (FrsUp.made w n f (fun _ => 1)), Lib.hid (by repeat first | with_reducible exact Below.refl _ _ | with_reducible refine Below.setCell ?_ (by first | omega | (simp; done) | (simp; omega)) _ | with_reducible refine Below.alloc ?_ (by first | omega | (simp; done) | (simp; omega)) _ | with_reducible refine Below.drew ?_ | with_reducible refine Ext.on _ ?_ (by first | omega | (simp; done) | (simp; omega)))⟩
  case round =>
    obtain ⟨k, hk, rfl, HU, HB⟩ := hrel
    have hbs := HB.out.size
    by_cases hk2 : k < n
    · obtain ⟨b, off, ha, hb2, hc⟩ := HX.out.resolve_left (by omega)
      subst ha
      have q0 := (HB.out.cell (p := ⟨b, off + k, none⟩) hb2).trans (hc k hk2)
      have hbw : b < wr.heap.size := by omega
      have HN := Lib.hid (fun (W : World) (hb : Below wr.heap.size wr W) => (HU.out.later hb).next hk2)
      have CK := Lib.hid (fun W => CWH.out (f k) W)
      have HUK := HU
      have FK : Hid (f k = f k) := Lib.hid rfl
      clear hc HX
      generalize f k = v at *
      go_wp2_with (go_at_call 76; (with_reducible refine Calls.mono (CK.out wr) ?_); rintro e _ ⟨rfl, ⟨y1, rfl⟩⟩; have y1s := y1.size; obtain ⟨hBlt, ef0, ef1, p, q, e0, e1⟩ := (HU.out.later y1.below).cells hk2)
      go_roundw
      case rel => exact ⟨k + 1, by omega, by go_num, Lib.hid (HN.out _ y1.below), Lib.hid (((y1.on HB.out hbs).setCell (by simp) _).setCell (by simp) _)⟩
      case measure => simp [intOf]; omega
    · obtain rfl : k = n := by omega
      have HF := Lib.hid (HU.out.all (by omega))
      go_wp2_with fail
      go_ret
      exact ⟨w.heap.size, rfl, HF.out, Cls.of HB.out⟩
/-- The numbers as fractions are a solution. -/
def ciB (y : Sy) (n : Nat) (f : Nat → Int) : Bool := csB y n f (fun _ => 1)
end Go.Proofs.Ytilhhbjdcdediaa
set_option linter.unusedVariables false
namespace Go.Proofs.Ytilhhbjdcdediaa
open Go Go.RowKit Go.Deep
set_option maxHeartbeats 8000000 in
set_option maxRecDepth 20000 in
theorem iCheck_calls (y : Sy) (a : Option Addr) (n c : Nat) (f : Nat → Int) (w : World) (h : SysA w y) (hx : IntsA w ⟨a, n, c⟩ f) (hi : ∀ i, i < n → In64 (f i)) (hn : n ≤ 12) :
    Calls Try.prog 17 #[y.v, .slice a n c] w fun e w' => e = .returned (.bool (ciB y n f)) ∧ Cls w w' := by
  have C1 := Lib.hid (fun (W : World) (hb : Below w.heap.size w W) => wholes_calls a n c f W (hx.later hb) (by omega))
  have C2 := Lib.hid (fun (W : World) (b : Nat) (hb : Below w.heap.size w W) (hf : FrsA W ⟨some ⟨b, 0, none⟩, n, n⟩ f (fun _ => 1)) => lcheck_calls y (some ⟨b, 0, none⟩) n n f (fun _ => 1) W (h.later hb) hf (fun i hi' => ⟨hi i hi', by unfold In64; omega⟩) (by omega))
  unfold ciB
  unfold Sy.v at *
  clear h hx hi
  generalize csB y n f (fun _ => 1) = cs at *
  generalize y.U.a = ua at *
  generalize y.U.len = un at *
  generalize y.U.cap = uc at *
  generalize y.R.a = ra at *
  generalize y.R.len = rn at *
  generalize y.R.cap = rc at *
  generalize y.B.a = ba at *
  generalize y.B.len = bn at *
  generalize y.B.cap = bc at *
  go_enter Try.func17, Try.ntmps17
  go_wp2_with fail
  refine wp_at (fun W => Below w.heap.size w W ∧ W.heap[w.heap.size]? = some (.cells #[.slice ua un uc, .slice ra rn rc, .slice ba bn bc] 30)) ⟨(by repeat first | with_reducible exact Below.refl _ _ | with_reducible refine Below.setCell ?_ (by first | omega | (simp; done) | (simp; omega)) _ | with_reducible refine Below.alloc ?_ (by first | omega | (simp; done) | (simp; omega)) _ | with_reducible refine Below.drew ?_ | with_reducible refine Ext.on _ ?_ (by first | omega | (simp; done) | (simp; omega))), heap_alloc_new w _⟩ ?_
  rintro W5 ⟨hB5, hs5⟩
  have HB5 := Lib.hid hB5
  have hB5s := hB5.size
  obtain ⟨hx0, c0, c1, c2⟩ := three_s hs5
  clear hB5 hs5
  refine wp_region_inv (x := (⟨W5, Below.refl _ _⟩ : Ext W5)) (fun j u W => match j with
  | 0 => u = .agg #[.slice ua un uc, .slice ra rn rc, .slice ba bn bc]
  | 1 => u = .slice a n c
  | 2 => ∃ b : Nat, u = .slice (some ⟨b, 0, none⟩) n n ∧ FrsA W ⟨some ⟨b, 0, none⟩, n, n⟩ f (fun _ => 1)
  | 3 => u = .bool cs
  | 4 => u = .bool cs
  | _ => True) 9 (by kernel_rfl) rfl (by kernel_rfl) (fun j u W1 W2 hcc => by
  match j with
  | 0 => exact id
  | 1 => exact id
  | 2 => rintro ⟨b, h1, h2⟩; exact ⟨b, h1, h2.later hcc.below⟩
  | 3 => exact id
  | 4 => exact id
  | _ + 5 => exact id) ?_
  refine inv_step (fun W hW hd K hK => ?_) (fun v0 aq hq => ?_)
  · obtain ⟨y0, rfl⟩ := hW
    have ys := y0.size
    have HK := Lib.hid hK
    clear hd hK
    go_wp2_with fail
    exact HK.out _ _ rfl ⟨⟨y0, rfl⟩, ⟨⟨y0.val, Below.refl _ _⟩, rfl⟩⟩ rfl trivial
  simp only [Act.put, List.setIfInBounds_toArray, List.set_cons_zero, List.set_cons_succ] at hq
  subst hq
  refine inv_step (fun W hW hd K hK => ?_) (fun v1 aq hq => ?_)
  · obtain ⟨y0, rfl⟩ := hW
    have ys := y0.size
    have HK := Lib.hid hK
    clear hd hK
    go_wp2_with fail
    exact HK.out _ _ rfl ⟨⟨y0, rfl⟩, ⟨⟨y0.val, Below.refl _ _⟩, rfl⟩⟩ rfl trivial
  simp only [Act.put, List.setIfInBounds_toArray, List.set_cons_zero, List.set_cons_succ] at hq
  subst hq
  refine inv_step (fun W hW hd K hK => ?_) (fun v2 aq hq => ?_)
  · obtain ⟨y0, rfl⟩ := hW
    have ys := y0.size
    have HK := Lib.hid hK
    obtain rfl : v1 = .slice a n c := hd 1 (by kernel_rfl)
    clear hd hK
    go_wp2_with (go_at_call 44; (with_reducible refine Calls.mono (C1.out y0.val (y0.on HB5.out (by omega))) ?_); rintro e _ ⟨b, rfl, hb, ⟨z, rfl⟩⟩)
    exact HK.out _ _ rfl ⟨Cls.step y0 ⟨z, rfl⟩, ⟨z, rfl⟩⟩ ⟨b, rfl, hb⟩ trivial
  simp only [Act.put, List.setIfInBounds_toArray, List.set_cons_zero, List.set_cons_succ] at hq
  subst hq
  refine inv_step (fun W hW hd K hK => ?_) (fun v3 aq hq => ?_)
  · obtain ⟨y0, rfl⟩ := hW
    have ys := y0.size
    have HK := Lib.hid hK
    obtain rfl : v0 = .agg #[.slice ua un uc, .slice ra rn rc, .slice ba bn bc] := hd 0 (by kernel_rfl)
    obtain ⟨bF, rfl, hF⟩ : ∃ b : Nat, v2 = .slice (some ⟨b, 0, none⟩) n n ∧ FrsA y0.val ⟨some ⟨b, 0, none⟩, n, n⟩ f (fun _ => 1) := hd 2 (by kernel_rfl)
    clear hd hK
    go_wp2_with (go_at_call 43; (with_reducible refine Calls.mono (C2.out y0.val bF (y0.on HB5.out (by omega)) hF) ?_); rintro e _ ⟨rfl, ⟨z, rfl⟩⟩)
    exact HK.out _ _ rfl ⟨Cls.step y0 ⟨z, rfl⟩, ⟨z, rfl⟩⟩ rfl trivial
  simp only [Act.put, List.setIfInBounds_toArray, List.set_cons_zero, List.set_cons_succ] at hq
  subst hq
  refine inv_step (fun W hW hd K hK => ?_) (fun v4 aq hq => ?_)
  · obtain ⟨y0, rfl⟩ := hW
    have ys := y0.size
    have HK := Lib.hid hK
    obtain rfl : v3 = .bool cs := hd 3 (by kernel_rfl)
    clear hd hK
    go_wp2_with fail
    exact HK.out _ _ rfl ⟨⟨y0, rfl⟩, ⟨⟨y0.val, Below.refl _ _⟩, rfl⟩⟩ rfl trivial
  simp only [Act.put, List.setIfInBounds_toArray, List.set_cons_zero, List.set_cons_succ] at hq
  subst hq
  refine inv_nil fun W hW hT hR => ?_
  obtain ⟨y0, rfl⟩ := hW
  have ys := y0.size
  obtain rfl : v4 = .bool cs := hT 4 (by decide)
  clear hT hR
  go_wp2_with fail
  go_ret
  exact ⟨rfl, Cls.of (y0.on HB5.out (by omega))⟩
set_option maxHeartbeats 8000000 in
set_option maxRecDepth 20000 in
theorem riCheck_calls (y : Sy) (a : Option Addr) (n c : Nat) (f : Nat → Int) (w : World) (h : SysA w y) (hx : IntsA w ⟨a, n, c⟩ f) (hi : ∀ i, i < n → In64 (f i)) (hn : n ≤ 12) :
    Calls Try.prog 18 #[y.v, .slice a n c] w fun e w' => e = .returned (.bool (ciB y n f)) ∧ Cls w w' := by
  have C2 := Lib.hid (fun (W : World) (s : Sl) (hb : Below w.heap.size w W) (hf : FrsA W ⟨s.a, n, s.cap⟩ f (fun _ => 1)) => rcheck_calls y s.a n s.cap f (fun _ => 1) W (h.later hb) hf (fun i hi' => ⟨hi i hi', by unfold In64; omega⟩) (by omega))
  have hnc := hx.1
  have hcm := hx.2.1
  have HX := Lib.hid hx.2.2
  unfold maxLen at hcm
  simp only at hnc hcm
  unfold ciB
  unfold Sy.v at *
  clear h hx hi
  generalize csB y n f (fun _ => 1) = cs at *
  generalize y.U.a = ua at *
  generalize y.U.len = un at *
  generalize y.U.cap = uc at *
  generalize y.R.a = ra at *
  generalize y.R.len = rn at *
  generalize y.R.cap = rc at *
  generalize y.B.a = ba at *
  generalize y.B.len = bn at *
  generalize y.B.cap = bc at *
  go_enter Try.func18, Try.ntmps18
  go_wp2_with fail
  go_loopw [5, 6] (fun v i wr => ∃ k : Nat, k ≤ n ∧ i = .int .i64 k ∧ Hid (OutF (w.heap.size + 1) f (fun _ => 1) k v wr) ∧ Hid (Below (w.heap.size + 1) (w.alloc (.cells #[.slice ua un uc, .slice ra rn rc, .slice ba bn bc] 30)) wr)) (fun _ i _ => n - (intOf i).toNat)
  case atStart => exact ⟨0, Nat.zero_le _, rfl, Lib.hid (OutF.nil _ _ _ _), Lib.hid (by repeat first | with_reducible exact Below.refl _ _ | with_reducible refine Below.setCell ?_ (by first | omega | (simp; done) | (simp; omega)) _ | with_reducible refine Below.alloc ?_ (by first | omega | (simp; done) | (simp; omega)) _ | with_reducible refine Below.drew ?_ | with_reducible refine Ext.on _ ?_ (by first | omega | (simp; done) | (simp; omega)))⟩
  case round =>
    obtain ⟨k, hk, rfl, HO, HB⟩ := hrel
    have hbs := HB.out.size
    simp at hbs
    have HW : Hid (Below w.heap.size w wr) := Lib.hid (((Below.refl _ _).alloc (Nat.le_refl _) _).trans (HB.out.mono (by omega)))
    by_cases hk2 : k < n
    · obtain ⟨b, off, ha, hb2, hc⟩ := HX.out.resolve_left (by omega)
      subst ha
      have q0 := (HW.out.cell (p := ⟨b, off + k, none⟩) hb2).trans (hc k hk2)
      have hbw : b < wr.heap.size := by omega
      have HS : Hid (∀ (v1 : Value) (w1 : World), w1.ownsRow (w.heap.size + 1) 34 2 v1 (k + 1) (flatF f (fun _ => 1) k ++ [.int .i64 (f k), .int .i64 1]) → OutF (w.heap.size + 1) f (fun _ => 1) (k + 1) v1 w1) := Lib.hid fun v1 w1 hh => hh
      clear hc HX
      generalize f k = fk at *
      have HO2 := Lib.hid (HO.out.later ((Below.refl wr.heap.size wr).alloc (Nat.le_refl _) (.cells #[.int .i64 fk, .int .i64 1] 34)))
      obtain ⟨i0, hi, hz0, hz1, hz2⟩ := info_parts infoFr
      go_wp2_with (at_builtin; (refine wpList_append_own_at _ rfl _ _ 23 rfl (w.heap.size + 1) 34 i0 (.agg #[.int .i64 0, .int .i64 0]) 2 16 Try.underlying23 hi hz0 hz1 hz2 rfl (by decide) _ k _ rfl HO2.out ⟨wr.heap.size, 0, none⟩ 1 1 [.int .i64 fk, .int .i64 1] rfl rfl (cells_new' _ _ _) (one_f _ _) (by unfold maxLen; omega) (by omega) (by first | (simp; done) | (simp; omega)) ?_; intro v1 w1 hown1 hg1 _ hv1; have HB3 : Hid (Below (w.heap.size + 1) (w.alloc (.cells #[.slice ua un uc, .slice ra rn rc, .slice ba bn bc] 30)) w1) := Lib.hid (Below.grown (w := wr.alloc _) (HB.out.alloc (by omega) _) hg1 (by first | (simp; done) | (simp; omega)) (fun k hk => OutB.base_le HO2.out hk)); have HO3 := Lib.hid (HS.out _ _ hown1); clear hown1 hg1 hv1))
      go_roundw
      case rel => exact ⟨k + 1, by omega, by go_num, HO3, HB3⟩
      case measure => simp [intOf]; omega
    · obtain rfl : k = n := by omega
      obtain ⟨s, hvv, hlo, hfr, _⟩ := HO.out.frs
      obtain ⟨sa, sn, sc⟩ := s
      simp only at hlo hvv
      subst hlo
      subst hvv
      have C3 := Lib.hid (C2.out wr ⟨sa, sn, sc⟩ HW.out hfr)
      obtain ⟨hx0, c0, c1, c2⟩ := three_s ((HB.out.block w.heap.size (by omega)).trans (heap_alloc_new w _))
      clear C2 hfr HO
      go_wp2_with (go_at_call 45; (with_reducible refine Calls.mono C3.out ?_); rintro e _ ⟨rfl, ⟨z, rfl⟩⟩)
      go_ret
      exact ⟨rfl, Cls.of (z.on HW.out HW.out.size)⟩
end Go.Proofs.Ytilhhbjdcdediaa
set_option linter.unusedVariables false
namespace Go.Proofs.Ytilhhbjdcdediaa
open Go Go.RowKit Go.Deep
set_option maxRecDepth 100000 in
theorem ci_lit (q1 q2 r q3 : Nat) : ciB (litS q1 q2 r q3 3 2 4) 1 (fun _ => 2) = true := by kernel_rfl
theorem ilit_calls (W : World) (q1 q2 r q3 q : Nat) (h1 : IntAt W q1 3) (h2 : RowAt1 W q2 r) (h3 : IntAt W r 2) (h4 : IntAt W q3 4) (h5 : IntAt W q 2) :
    Calls Try.prog 17 #[.agg #[.slice (some ⟨q1, 0, none⟩) 1 1, .slice (some ⟨q2, 0, none⟩) 1 1, .slice (some ⟨q3, 0, none⟩) 1 1], .slice (some ⟨q, 0, none⟩) 1 1] W fun e w' => e = .returned (.bool true) ∧ Cls W w' := by
  have := iCheck_calls (litS q1 q2 r q3 3 2 4) (some ⟨q, 0, none⟩) 1 1 (fun _ => 2) W (lit_sys h1 h2 h3 h4) h5.ints (fun i hi => by unfold In64; omega) (by decide)
  rw [ci_lit] at this
  exact this
set_option maxHeartbeats 16000000 in
set_option maxRecDepth 20000 in
theorem integralChecks_walk (y : Sy) (s : Sl) (f : Nat → Int) (w : World) (h : SysA w y) (hx : IntsA w s f ∧ ∀ i, i < s.len → In64 (f i)) :
    Calls Try.prog 5 #[y.v, .slice s.a s.len s.cap] w fun e w' => e = .returned (.bool true) ∧ Below w.heap.size w w' := by
  obtain ⟨a, n, c⟩ := s
  simp only at hx ⊢
  obtain ⟨hx, hi⟩ := hx
  have hnc := hx.1
  have hcm := hx.2.1
  unfold maxLen at hcm
  simp only at hnc hcm
  have C1 := Lib.hid (fun (W : World) (hb : Below w.heap.size w W) => Few_calls y W (h.later hb))
  have C2 := Lib.hid (fun (hn : n ≤ 12) (W : World) (hb : Below w.heap.size w W) => iCheck_calls y a n c f W (h.later hb) (hx.later hb) hi hn)
  have C3 := Lib.hid (fun (hn : n ≤ 12) (W : World) (hb : Below w.heap.size w W) => riCheck_calls y a n c f W (h.later hb) (hx.later hb) hi hn)
  have CLI := Lib.hid ilit_calls
  clear h hx hi
  generalize ciB y n f = cs at *
  unfold Sy.v at *
  by_cases h1 : n ≤ 12
  case neg =>
    have d0 : decide ((12 : Int) < ((n : Nat) : Int)) = true := decide_eq_true (by omega)
    clear C2 C3 CLI
    generalize y.U.a = ua at *
    generalize y.U.len = un at *
    generalize y.U.cap = uc at *
    generalize y.R.a = ra at *
    generalize y.R.len = rn at *
    generalize y.R.cap = rc at *
    generalize y.B.a = ba at *
    generalize y.B.len = bn at *
    generalize y.B.cap = bc at *
    go_enter Try.func5, Try.ntmps5
    go_wp2_with (go_at_call 16; (with_reducible refine Calls.mono (C1.out _ ?_) ?_); (focus (repeat first | with_reducible exact Below.refl _ _ | with_reducible refine Below.setCell ?_ (by first | omega | (simp; done) | (simp; omega)) _ | with_reducible refine Below.alloc ?_ (by first | omega | (simp; done) | (simp; omega)) _ | with_reducible refine Below.drew ?_ | with_reducible refine Ext.on _ ?_ (by first | omega | (simp; done) | (simp; omega)))); rintro e _ ⟨fb, rfl, hfb, ⟨x, rfl⟩⟩; have xs := x.size; (try simp at xs); clear hfb; obtain ⟨hx0, c0, c1, c2⟩ := three_s ((x.below.block w.heap.size (by simp)).trans (heap_alloc_new w _)))
    all_goals
      go_ret
      refine ⟨rfl, ?_⟩
      repeat first | with_reducible exact Below.refl _ _ | with_reducible refine Below.setCell ?_ (by first | omega | (simp; done) | (simp; omega)) _ | with_reducible refine Below.alloc ?_ (by first | omega | (simp; done) | (simp; omega)) _ | with_reducible refine Below.drew ?_ | with_reducible refine Ext.on _ ?_ (by first | omega | (simp; done) | (simp; omega))
  have d0 : decide ((12 : Int) < ((n : Nat) : Int)) = false := decide_eq_false (by omega)
  have D2 := Lib.hid (C2.out h1)
  have D3 := Lib.hid (C3.out h1)
  clear C2 C3
  generalize y.U.a = ua at *
  generalize y.U.len = un at *
  generalize y.U.cap = uc at *
  generalize y.R.a = ra at *
  generalize y.R.len = rn at *
  generalize y.R.cap = rc at *
  generalize y.B.a = ba at *
  generalize y.B.len = bn at *
  generalize y.B.cap = bc at *
  go_enter Try.func5, Try.ntmps5
  go_wp2_with (go_at_call 16; (with_reducible refine Calls.mono (C1.out _ ?_) ?_); (focus (repeat first | with_reducible exact Below.refl _ _ | with_reducible refine Below.setCell ?_ (by first | omega | (simp; done) | (simp; omega)) _ | with_reducible refine Below.alloc ?_ (by first | omega | (simp; done) | (simp; omega)) _ | with_reducible refine Below.drew ?_ | with_reducible refine Ext.on _ ?_ (by first | omega | (simp; done) | (simp; omega)))); rintro e _ ⟨fb, rfl, hfb, ⟨x, rfl⟩⟩; have xs := x.size; (try simp at xs); clear hfb; obtain ⟨hx0, c0, c1, c2⟩ := three_s ((x.below.block w.heap.size (by simp)).trans (heap_alloc_new w _)))
  · refine wp_at (fun W => Below w.heap.size w W ∧ W.heap[w.heap.size]? = some (.cells #[.slice ua un uc, .slice ra rn rc, .slice ba bn bc] 30)) ⟨(by repeat first | with_reducible exact Below.refl _ _ | with_reducible refine Below.setCell ?_ (by first | omega | (simp; done) | (simp; omega)) _ | with_reducible refine Below.alloc ?_ (by first | omega | (simp; done) | (simp; omega)) _ | with_reducible refine Below.drew ?_ | with_reducible refine Ext.on _ ?_ (by first | omega | (simp; done) | (simp; omega))), (x.below.block _ (by simp)).trans (heap_alloc_new w _)⟩ ?_
    rintro W5 ⟨hB5, hs5⟩
    have HB5 := Lib.hid hB5
    have hB5s := hB5.size
    obtain ⟨hx0, c0, c1, c2⟩ := three_s hs5
    clear hB5 hs5
    refine wp_region_inv (x := (⟨W5, Below.refl _ _⟩ : Ext W5)) (fun j u W => match j with
  | 0 => u = .agg #[.slice ua un uc, .slice ra rn rc, .slice ba bn bc]
  | 1 => u = .slice a n c
  | 2 => u = .bool cs
  | 3 => u = .agg #[.slice ua un uc, .slice ra rn rc, .slice ba bn bc]
  | 4 => u = .slice a n c
  | 5 => u = .bool cs
  | 6 => u = .bool true
  | 7 => u = .bool true
  | 8 => ∃ q : Nat, u = .slice (some ⟨q, 0, none⟩) 1 1 ∧ IntAt W q 3
  | 9 => ∃ q : Nat, u = .slice (some ⟨q, 0, none⟩) 1 1 ∧ IntAt W q 2
  | 10 => ∃ q r : Nat, u = .slice (some ⟨q, 0, none⟩) 1 1 ∧ RowAt1 W q r ∧ IntAt W r 2
  | 11 => ∃ q : Nat, u = .slice (some ⟨q, 0, none⟩) 1 1 ∧ IntAt W q 4
  | 12 => ∃ q1 q2 r q3 : Nat, u = .agg #[.slice (some ⟨q1, 0, none⟩) 1 1, .slice (some ⟨q2, 0, none⟩) 1 1, .slice (some ⟨q3, 0, none⟩) 1 1] ∧ IntAt W q1 3 ∧ RowAt1 W q2 r ∧ IntAt W r 2 ∧ IntAt W q3 4
  | 13 => ∃ q : Nat, u = .slice (some ⟨q, 0, none⟩) 1 1 ∧ IntAt W q 2
  | 14 => u = .bool true
  | 15 => u = .bool true
  | 16 => u = .bool true
  | _ => True) 29 (by kernel_rfl) rfl (by kernel_rfl) (fun j u W1 W2 hcc => by
  match j with
  | 0 => exact id
  | 1 => exact id
  | 2 => exact id
  | 3 => exact id
  | 4 => exact id
  | 5 => exact id
  | 6 => exact id
  | 7 => exact id
  | 8 => rintro ⟨q, h1, h2⟩; exact ⟨q, h1, h2.later hcc.below⟩
  | 9 => rintro ⟨q, h1, h2⟩; exact ⟨q, h1, h2.later hcc.below⟩
  | 10 => rintro ⟨q, r, h1, h2, h3⟩; exact ⟨q, r, h1, h2.later hcc.below, h3.later hcc.below⟩
  | 11 => rintro ⟨q, h1, h2⟩; exact ⟨q, h1, h2.later hcc.below⟩
  | 12 => rintro ⟨q1, q2, r, q3, h1, h2, h3, h4, h5⟩; exact ⟨q1, q2, r, q3, h1, h2.later hcc.below, h3.later hcc.below, h4.later hcc.below, h5.later hcc.below⟩
  | 13 => rintro ⟨q, h1, h2⟩; exact ⟨q, h1, h2.later hcc.below⟩
  | 14 => exact id
  | 15 => exact id
  | 16 => exact id
  | _ + 17 => exact id) ?_
    refine inv_step (fun W hW hd K hK => ?_) (fun v0 aq hq => ?_)
    · obtain ⟨y, rfl⟩ := hW
      have ys := y.size
      have HK := Lib.hid hK
      clear hd hK
      go_wp2_with fail
      exact HK.out _ _ rfl ⟨⟨y, rfl⟩, ⟨⟨y.val, Below.refl _ _⟩, rfl⟩⟩ rfl trivial
    simp only [Act.put, List.setIfInBounds_toArray, List.set_cons_zero, List.set_cons_succ] at hq
    subst hq
    refine inv_step (fun W hW hd K hK => ?_) (fun v1 aq hq => ?_)
    · obtain ⟨y, rfl⟩ := hW
      have ys := y.size
      have HK := Lib.hid hK
      clear hd hK
      go_wp2_with fail
      exact HK.out _ _ rfl ⟨⟨y, rfl⟩, ⟨⟨y.val, Below.refl _ _⟩, rfl⟩⟩ rfl trivial
    simp only [Act.put, List.setIfInBounds_toArray, List.set_cons_zero, List.set_cons_succ] at hq
    subst hq
    refine inv_step (fun W hW hd K hK => ?_) (fun v2 aq hq => ?_)
    · obtain ⟨y, rfl⟩ := hW
      have ys := y.size
      have HK := Lib.hid hK
      obtain rfl : v0 = .agg #[.slice ua un uc, .slice ra rn rc, .slice ba bn bc] := hd 0 (by kernel_rfl)
      obtain rfl : v1 = .slice a n c := hd 1 (by kernel_rfl)
      clear hd hK
      go_wp2_with (go_at_call 17; (with_reducible refine Calls.mono (D2.out y.val (y.on HB5.out (by omega))) ?_); rintro e _ ⟨rfl, ⟨z, rfl⟩⟩)
      exact HK.out _ _ rfl ⟨Cls.step y ⟨z, rfl⟩, ⟨z, rfl⟩⟩ rfl trivial
    simp only [Act.put, List.setIfInBounds_toArray, List.set_cons_zero, List.set_cons_succ] at hq
    subst hq
    refine inv_step (fun W hW hd K hK => ?_) (fun v3 aq hq => ?_)
    · obtain ⟨y, rfl⟩ := hW
      have ys := y.size
      have HK := Lib.hid hK
      clear hd hK
      go_wp2_with fail
      exact HK.out _ _ rfl ⟨⟨y, rfl⟩, ⟨⟨y.val, Below.refl _ _⟩, rfl⟩⟩ rfl trivial
    simp only [Act.put, List.setIfInBounds_toArray, List.set_cons_zero, List.set_cons_succ] at hq
    subst hq
    refine inv_step (fun W hW hd K hK => ?_) (fun v4 aq hq => ?_)
    · obtain ⟨y, rfl⟩ := hW
      have ys := y.size
      have HK := Lib.hid hK
      clear hd hK
      go_wp2_with fail
      exact HK.out _ _ rfl ⟨⟨y, rfl⟩, ⟨⟨y.val, Below.refl _ _⟩, rfl⟩⟩ rfl trivial
    simp only [Act.put, List.setIfInBounds_toArray, List.set_cons_zero, List.set_cons_succ] at hq
    subst hq
    refine inv_step (fun W hW hd K hK => ?_) (fun v5 aq hq => ?_)
    · obtain ⟨y, rfl⟩ := hW
      have ys := y.size
      have HK := Lib.hid hK
      obtain rfl : v3 = .agg #[.slice ua un uc, .slice ra rn rc, .slice ba bn bc] := hd 3 (by kernel_rfl)
      obtain rfl : v4 = .slice a n c := hd 4 (by kernel_rfl)
      clear hd hK
      go_wp2_with (go_at_call 18; (with_reducible refine Calls.mono (D3.out y.val (y.on HB5.out (by omega))) ?_); rintro e _ ⟨rfl, ⟨z, rfl⟩⟩)
      exact HK.out _ _ rfl ⟨Cls.step y ⟨z, rfl⟩, ⟨z, rfl⟩⟩ rfl trivial
    simp only [Act.put, List.setIfInBounds_toArray, List.set_cons_zero, List.set_cons_succ] at hq
    subst hq
    refine inv_step (fun W hW hd K hK => ?_) (fun v6 aq hq => ?_)
    · obtain ⟨y, rfl⟩ := hW
      have ys := y.size
      have HK := Lib.hid hK
      obtain rfl : v2 = .bool cs := hd 2 (by kernel_rfl)
      obtain rfl : v5 = .bool cs := hd 5 (by kernel_rfl)
      clear hd hK
      go_wp2_with fail
      exact HK.out _ _ rfl ⟨⟨y, rfl⟩, ⟨⟨y.val, Below.refl _ _⟩, rfl⟩⟩ rfl trivial
    simp only [Act.put, List.setIfInBounds_toArray, List.set_cons_zero, List.set_cons_succ] at hq
    subst hq
    refine inv_step (fun W hW hd K hK => ?_) (fun v7 aq hq => ?_)
    · obtain ⟨y, rfl⟩ := hW
      have ys := y.size
      have HK := Lib.hid hK
      obtain rfl : v6 = .bool true := hd 6 (by kernel_rfl)
      clear hd hK
      go_wp2_with fail
      exact HK.out _ _ rfl ⟨⟨y, rfl⟩, ⟨⟨y.val, Below.refl _ _⟩, rfl⟩⟩ rfl trivial
    simp only [Act.put, List.setIfInBounds_toArray, List.set_cons_zero, List.set_cons_succ] at hq
    subst hq
    refine inv_step (fun W hW hd K hK => ?_) (fun v8 aq hq => ?_)
    · obtain ⟨y, rfl⟩ := hW
      have ys := y.size
      have HK := Lib.hid hK
      obtain rfl : v7 = .bool true := hd 7 (by kernel_rfl)
      clear hd hK
      go_wp2_with fail
      exact HK.out _ _ rfl ⟨Cls.step y (Cls.of ((Below.refl _ _).alloc (Nat.le_refl _) _)), Cls.of ((Below.refl _ _).alloc (Nat.le_refl _) _)⟩ ⟨y.val.heap.size, rfl, heap_alloc_new _ _⟩ trivial
    simp only [Act.put, List.setIfInBounds_toArray, List.set_cons_zero, List.set_cons_succ] at hq
    subst hq
    refine inv_step (fun W hW hd K hK => ?_) (fun v9 aq hq => ?_)
    · obtain ⟨y, rfl⟩ := hW
      have ys := y.size
      have HK := Lib.hid hK
      obtain rfl : v7 = .bool true := hd 7 (by kernel_rfl)
      clear hd hK
      go_wp2_with fail
      exact HK.out _ _ rfl ⟨Cls.step y (Cls.of ((Below.refl _ _).alloc (Nat.le_refl _) _)), Cls.of ((Below.refl _ _).alloc (Nat.le_refl _) _)⟩ ⟨y.val.heap.size, rfl, heap_alloc_new _ _⟩ trivial
    simp only [Act.put, List.setIfInBounds_toArray, List.set_cons_zero, List.set_cons_succ] at hq
    subst hq
    refine inv_step (fun W hW hd K hK => ?_) (fun v10 aq hq => ?_)
    · obtain ⟨y, rfl⟩ := hW
      have ys := y.size
      have HK := Lib.hid hK
      obtain rfl : v7 = .bool true := hd 7 (by kernel_rfl)
      obtain ⟨q9, rfl, h9⟩ : ∃ q : Nat, v9 = .slice (some ⟨q, 0, none⟩) 1 1 ∧ IntAt y.val q 2 := hd 9 (by kernel_rfl)
      clear hd hK
      go_wp2_with fail
      exact HK.out _ _ rfl ⟨Cls.step y (Cls.of ((Below.refl _ _).alloc (Nat.le_refl _) _)), Cls.of ((Below.refl _ _).alloc (Nat.le_refl _) _)⟩ ⟨y.val.heap.size, q9, rfl, heap_alloc_new _ _, h9.later ((Below.refl _ _).alloc (Nat.le_refl _) _)⟩ trivial
    simp only [Act.put, List.setIfInBounds_toArray, List.set_cons_zero, List.set_cons_succ] at hq
    subst hq
    refine inv_step (fun W hW hd K hK => ?_) (fun v11 aq hq => ?_)
    · obtain ⟨y, rfl⟩ := hW
      have ys := y.size
      have HK := Lib.hid hK
      obtain rfl : v7 = .bool true := hd 7 (by kernel_rfl)
      clear hd hK
      go_wp2_with fail
      exact HK.out _ _ rfl ⟨Cls.step y (Cls.of ((Below.refl _ _).alloc (Nat.le_refl _) _)), Cls.of ((Below.refl _ _).alloc (Nat.le_refl _) _)⟩ ⟨y.val.heap.size, rfl, heap_alloc_new _ _⟩ trivial
    simp only [Act.put, List.setIfInBounds_toArray, List.set_cons_zero, List.set_cons_succ] at hq
    subst hq
    refine inv_step (fun W hW hd K hK => ?_) (fun v12 aq hq => ?_)
    · obtain ⟨y, rfl⟩ := hW
      have ys := y.size
      have HK := Lib.hid hK
      obtain rfl : v7 = .bool true := hd 7 (by kernel_rfl)
      obtain ⟨qA, rfl, hA⟩ : ∃ q : Nat, v8 = .slice (some ⟨q, 0, none⟩) 1 1 ∧ IntAt y.val q 3 := hd 8 (by kernel_rfl)
      obtain ⟨qR, rR, rfl, hR1, hR2⟩ : ∃ q r : Nat, v10 = .slice (some ⟨q, 0, none⟩) 1 1 ∧ RowAt1 y.val q r ∧ IntAt y.val r 2 := hd 10 (by kernel_rfl)
      obtain ⟨qC, rfl, hC⟩ : ∃ q : Nat, v11 = .slice (some ⟨q, 0, none⟩) 1 1 ∧ IntAt y.val q 4 := hd 11 (by kernel_rfl)
      clear hd hK
      go_wp2_with fail
      exact HK.out _ _ rfl ⟨⟨y, rfl⟩, ⟨⟨y.val, Below.refl _ _⟩, rfl⟩⟩ ⟨qA, qR, rR, qC, rfl, hA, hR1, hR2, hC⟩ trivial
    simp only [Act.put, List.setIfInBounds_toArray, List.set_cons_zero, List.set_cons_succ] at hq
    subst hq
    refine inv_step (fun W hW hd K hK => ?_) (fun v13 aq hq => ?_)
    · obtain ⟨y, rfl⟩ := hW
      have ys := y.size
      have HK := Lib.hid hK
      obtain rfl : v7 = .bool true := hd 7 (by kernel_rfl)
      clear hd hK
      go_wp2_with fail
      exact HK.out _ _ rfl ⟨Cls.step y (Cls.of ((Below.refl _ _).alloc (Nat.le_refl _) _)), Cls.of ((Below.refl _ _).alloc (Nat.le_refl _) _)⟩ ⟨y.val.heap.size, rfl, heap_alloc_new _ _⟩ trivial
    simp only [Act.put, List.setIfInBounds_toArray, List.set_cons_zero, List.set_cons_succ] at hq
    subst hq
    refine inv_step (fun W hW hd K hK => ?_) (fun v14 aq hq => ?_)
    · obtain ⟨y, rfl⟩ := hW
      have ys := y.size
      have HK := Lib.hid hK
      obtain rfl : v7 = .bool true := hd 7 (by kernel_rfl)
      obtain ⟨q1, q2, r1, q3, rfl, k1, k2, k3, k4⟩ : ∃ q1 q2 r q3 : Nat, v12 = .agg #[.slice (some ⟨q1, 0, none⟩) 1 1, .slice (some ⟨q2, 0, none⟩) 1 1, .slice (some ⟨q3, 0, none⟩) 1 1] ∧ IntAt y.val q1 3 ∧ RowAt1 y.val q2 r ∧ IntAt y.val r 2 ∧ IntAt y.val q3 4 := hd 12 (by kernel_rfl)
      obtain ⟨qX, rfl, hX⟩ : ∃ q : Nat, v13 = .slice (some ⟨q, 0, none⟩) 1 1 ∧ IntAt y.val q 2 := hd 13 (by kernel_rfl)
      clear hd hK
      go_wp2_with (go_at_call 17; (with_reducible refine Calls.mono (CLI.out y.val q1 q2 r1 q3 qX k1 k2 k3 k4 hX) ?_); rintro e _ ⟨rfl, ⟨z, rfl⟩⟩)
      exact HK.out _ _ rfl ⟨Cls.step y ⟨z, rfl⟩, ⟨z, rfl⟩⟩ rfl trivial
    simp only [Act.put, List.setIfInBounds_toArray, List.set_cons_zero, List.set_cons_succ] at hq
    subst hq
    refine inv_step (fun W hW hd K hK => ?_) (fun v15 aq hq => ?_)
    · obtain ⟨y, rfl⟩ := hW
      have ys := y.size
      have HK := Lib.hid hK
      obtain rfl : v7 = .bool true := hd 7 (by kernel_rfl)
      obtain rfl : v14 = .bool true := hd 14 (by kernel_rfl)
      clear hd hK
      go_wp2_with fail
      exact HK.out _ _ rfl ⟨⟨y, rfl⟩, ⟨⟨y.val, Below.refl _ _⟩, rfl⟩⟩ rfl trivial
    simp only [Act.put, List.setIfInBounds_toArray, List.set_cons_zero, List.set_cons_succ] at hq
    subst hq
    refine inv_step (fun W hW hd K hK => ?_) (fun v16 aq hq => ?_)
    · obtain ⟨y, rfl⟩ := hW
      have ys := y.size
      have HK := Lib.hid hK
      obtain rfl : v15 = .bool true := hd 15 (by kernel_rfl)
      clear hd hK
      go_wp2_with fail
      exact HK.out _ _ rfl ⟨⟨y, rfl⟩, ⟨⟨y.val, Below.refl _ _⟩, rfl⟩⟩ rfl trivial
    simp only [Act.put, List.setIfInBounds_toArray, List.set_cons_zero, List.set_cons_succ] at hq
    subst hq
    refine inv_nil fun W hW hT hR => ?_
    obtain ⟨y, rfl⟩ := hW
    have ys := y.size
    obtain rfl : v16 = .bool true := hT 16 (by decide)
    clear hT hR
    go_wp2_with fail
    go_ret
    exact ⟨rfl, y.on HB5.out (by omega)⟩
  · go_ret
    refine ⟨rfl, ?_⟩
    repeat first | with_reducible exact Below.refl _ _ | with_reducible refine Below.setCell ?_ (by first | omega | (simp; done) | (simp; omega)) _ | with_reducible refine Below.alloc ?_ (by first | omega | (simp; done) | (simp; omega)) _ | with_reducible refine Below.drew ?_ | with_reducible refine Ext.on _ ?_ (by first | omega | (simp; done) | (simp; omega))
end Go.Proofs.Ytilhhbjdcdediaa
