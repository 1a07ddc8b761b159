/-
  The program's CheckSolution.
-/
import Derived.Test.YtogjollefllajaaLChkM
set_option linter.unusedVariables false
namespace Go.Proofs.Ytogjollefllajaa
open Go Go.RowKit Go.Deep
set_option maxHeartbeats 2000000 in
set_option maxRecDepth 20000 in
theorem lwhole_calls (n : Int) (w : World) :
    Calls Try.prog 25 #[.int .i64 n] w fun e w' => e = .returned (.agg #[.int .i64 n, .int .i64 1]) ∧ Cls w w' := by
  go_enter Try.func25, Try.ntmps25
  go_wp2_with fail
  refine ret_ex rfl ?_
  simp [results, Try.results25, go_sem]
  refine Cls.of ?_
  repeat first | with_reducible exact Below.refl _ _ | with_reducible refine Below.setCell ?_ (by first | omega | (simp; done) | (simp; omega)) _ | with_reducible refine Below.alloc ?_ (by first | omega | (simp; done) | (simp; omega)) _ | with_reducible refine Below.drew ?_ | with_reducible refine Ext.on _ ?_ (by first | omega | (simp; done) | (simp; omega))
set_option maxHeartbeats 16000000 in
set_option maxRecDepth 20000 in
theorem lcheck_calls (y : Sy) (a : Option Addr) (n c : Nat) (fn fd : Nat → Int) (w : World) (h : SysA w y) (hx : FrsA w ⟨a, n, c⟩ fn fd) (hi : ∀ i, i < n → In64 (fn i) ∧ In64 (fd i)) (hn : n ≤ 90) :
    Calls Try.prog 9 #[y.v, .slice a n c] w fun e w' => e = .returned (.bool (csB y n fn fd)) ∧ Cls w w' := by
  have C1 := Lib.hid (fun (W : World) (hb : Below w.heap.size w W) => lValid_calls y W (h.later hb))
  have C2 := Lib.hid (fun (W : World) (hb : Below w.heap.size w W) => allValid_calls a n c fn fd W (hx.later hb) hi)
  have C3 := Lib.hid (fun (up : Int) (W : World) => lwhole_calls up W)
  by_cases h1 : vaS y = 0
  case neg =>
    have e : csB y n fn fd = false := by unfold csB; rw [show (vaS y == 0) = false by simpa using h1]; rfl
    have d1 : (vaS y != 0) = true := by simpa using h1
    rw [e]
    unfold Sy.v at *
    clear e h1 C2 C3 h hx hi
    generalize vaS y = va at *
    generalize y.U.a = ua at *
    generalize y.U.len = un at *
    generalize y.U.cap = uc at *
    generalize y.R.a = ra at *
    generalize y.R.len = rn at *
    generalize y.R.cap = rc at *
    generalize y.B.a = ba at *
    generalize y.B.len = bn at *
    generalize y.B.cap = bc at *
    go_enter Try.func9, Try.ntmps9
    go_wp2_with (go_at_call 7; (with_reducible refine Calls.mono (C1.out _ ?_) ?_); (focus (repeat first | with_reducible exact Below.refl _ _ | with_reducible refine Below.setCell ?_ (by first | omega | (simp; done) | (simp; omega)) _ | with_reducible refine Below.alloc ?_ (by first | omega | (simp; done) | (simp; omega)) _ | with_reducible refine Below.drew ?_ | with_reducible refine Ext.on _ ?_ (by first | omega | (simp; done) | (simp; omega)))); rintro e _ ⟨rfl, ⟨x, rfl⟩⟩)
    go_ret
    refine ⟨rfl, Cls.of ?_⟩
    repeat first | with_reducible exact Below.refl _ _ | with_reducible refine Below.setCell ?_ (by first | omega | (simp; done) | (simp; omega)) _ | with_reducible refine Below.alloc ?_ (by first | omega | (simp; done) | (simp; omega)) _ | with_reducible refine Below.drew ?_ | with_reducible refine Ext.on _ ?_ (by first | omega | (simp; done) | (simp; omega))
  case pos =>
    have V := vaS_zero h1
    have e1 : csB y n fn fd = ((((n : Nat) : Int) == ((y.U.len : Nat) : Int)) && (!anyB (bX y fn fd) n && !anyB (bE y fn fd n) y.R.len)) := by unfold csB; rw [h1]; rfl
    rw [h1] at C1
    rw [e1]
    clear e1 h1
    by_cases h2 : n = y.U.len
    case neg =>
      have d2 : ((n : Int) != ((y.U.len : Nat) : Int)) = true := by simp; omega
      have d3 : ((n : Int) == ((y.U.len : Nat) : Int)) = false := by simp; omega
      rw [d3, Bool.false_and]
      unfold Sy.v at *
      clear d3 h2 C2 C3 h hx hi V
      generalize y.U.a = ua at *
      generalize y.U.len = un at *
      generalize y.U.cap = uc at *
      generalize y.R.a = ra at *
      generalize y.R.len = rn at *
      generalize y.R.cap = rc at *
      generalize y.B.a = ba at *
      generalize y.B.len = bn at *
      generalize y.B.cap = bc at *
      go_enter Try.func9, Try.ntmps9
      go_wp2_with (go_at_call 7; (with_reducible refine Calls.mono (C1.out _ ?_) ?_); (focus (repeat first | with_reducible exact Below.refl _ _ | with_reducible refine Below.setCell ?_ (by first | omega | (simp; done) | (simp; omega)) _ | with_reducible refine Below.alloc ?_ (by first | omega | (simp; done) | (simp; omega)) _ | with_reducible refine Below.drew ?_ | with_reducible refine Ext.on _ ?_ (by first | omega | (simp; done) | (simp; omega)))); rintro e _ ⟨rfl, ⟨x, rfl⟩⟩; have xs := x.size; (try simp at xs); have xa : w.heap.size < x.val.heap.size := (by omega); obtain ⟨_, c0, c1, c2⟩ := three_s ((x.below.block w.heap.size (by simp)).trans (heap_alloc_new w _)))
      go_ret
      refine ⟨rfl, Cls.of ?_⟩
      repeat first | with_reducible exact Below.refl _ _ | with_reducible refine Below.setCell ?_ (by first | omega | (simp; done) | (simp; omega)) _ | with_reducible refine Below.alloc ?_ (by first | omega | (simp; done) | (simp; omega)) _ | with_reducible refine Below.drew ?_ | with_reducible refine Ext.on _ ?_ (by first | omega | (simp; done) | (simp; omega))
    case pos =>
      have d2 : ((n : Int) != ((y.U.len : Nat) : Int)) = false := by simp; omega
      have d3 : ((n : Int) == ((y.U.len : Nat) : Int)) = true := by simp; omega
      rw [d3, Bool.true_and]
      clear d3
      cases h3 : anyB (fun i => !vaB (fn i) (fd i)) n
      case true =>
        have e : anyB (bX y fn fd) n = true := by
          obtain ⟨i, hi, hp⟩ := anyB_iff.1 h3
          exact anyB_iff.2 ⟨i, hi, by unfold bX; rw [hp]; rfl⟩
        rw [h3] at C2
        rw [e]
        simp only [Bool.not_true, Bool.false_and]
        unfold Sy.v at *
        clear e C3 h hx hi V h3 h2
        generalize y.U.a = ua at *
        generalize y.U.len = un at *
        generalize y.U.cap = uc at *
        generalize y.R.a = ra at *
        generalize y.R.len = rn at *
        generalize y.R.cap = rc at *
        generalize y.B.a = ba at *
        generalize y.B.len = bn at *
        generalize y.B.cap = bc at *
        go_enter Try.func9, Try.ntmps9
        go_wp2_with (first | (go_at_call 7; (with_reducible refine Calls.mono (C1.out _ ?_) ?_); (focus (repeat first | with_reducible exact Below.refl _ _ | with_reducible refine Below.setCell ?_ (by first | omega | (simp; done) | (simp; omega)) _ | with_reducible refine Below.alloc ?_ (by first | omega | (simp; done) | (simp; omega)) _ | with_reducible refine Below.drew ?_ | with_reducible refine Ext.on _ ?_ (by first | omega | (simp; done) | (simp; omega)))); rintro e _ ⟨rfl, ⟨x, rfl⟩⟩; have xs := x.size; (try simp at xs); have xa : w.heap.size < x.val.heap.size := (by omega); obtain ⟨_, c0, c1, c2⟩ := three_s ((x.below.block w.heap.size (by simp)).trans (heap_alloc_new w _))) | (go_at_call 23; (with_reducible refine Calls.mono (C2.out _ ?_) ?_); (focus (repeat first | with_reducible exact Below.refl _ _ | with_reducible refine Below.setCell ?_ (by first | omega | (simp; done) | (simp; omega)) _ | with_reducible refine Below.alloc ?_ (by first | omega | (simp; done) | (simp; omega)) _ | with_reducible refine Below.drew ?_ | with_reducible refine Ext.on _ ?_ (by first | omega | (simp; done) | (simp; omega)))); rintro e _ ⟨rfl, ⟨x2, rfl⟩⟩))
        go_ret
        refine ⟨rfl, Cls.of ?_⟩
        repeat first | with_reducible exact Below.refl _ _ | with_reducible refine Below.setCell ?_ (by first | omega | (simp; done) | (simp; omega)) _ | with_reducible refine Below.alloc ?_ (by first | omega | (simp; done) | (simp; omega)) _ | with_reducible refine Below.drew ?_ | with_reducible refine Ext.on _ ?_ (by first | omega | (simp; done) | (simp; omega))
      case false =>
        rw [h3] at C2
        have hva := anyB_no.1 h3
        have HVA : Hid (∀ i, i < n → vaB (fn i) (fd i) = true) := Lib.hid fun i hi => by simpa using hva i hi
        clear hva h3
        have CT : Hid (∀ (i : Nat), i < y.R.len → ∀ W, Below w.heap.size w W → Calls Try.prog 26 #[.slice (y.row i).a (y.row i).len (y.row i).cap, .slice a n c] W (SumR W (totN (y.co i) fn (fdN fd) n) (totD (fdN fd) n))) := Lib.hid fun i hi W hW => by
          have hr := V.row i hi
          have hrow := (h.R.2.2.1 i hi).later hW
          have := total_calls (y.row i).a (y.row i).len (y.row i).cap (y.co i) a n c fn fd W hrow (hx.later hW) (by omega) (by omega) (fun k hk => by have := V.co i hi k (by omega); omega) (fun k hk => HVA.out k (by omega))
          rw [hr, ← h2] at this ⊢
          exact this
        have CC : Hid (∀ (i : Nat), i < y.R.len → ∀ (W : World) (g : Bool) (s t : Sl), IAt W g s (frI (totN (y.co i) fn (fdN fd) n) (totD (fdN fd) n)) → NatAt W t (frd (totN (y.co i) fn (fdN fd) n) (totD (fdN fd) n)) → Calls Try.prog 27 #[.agg #[.bool g, .slice s.a s.len s.cap, .slice t.a t.len t.cap], .agg #[.int .i64 (y.rt i), .int .i64 1]] W fun e w' => ∃ r, e = .returned (.int .i64 r) ∧ (r != 0) = bE y fn fd n i ∧ Cls W w') := Lib.hid fun i hi W g s t hs ht => by
          have hD : 0 < totD (fdN fd) n := totD_pos n fun k hk => by have := (vaB_rng (HVA.out k hk)).1; show 0 < (fd k).natAbs; omega
          have hN : (totN (y.co i) fn (fdN fd) n).natAbs < wp 200 := wp_mono (totN_lt n fun k hk => by
            obtain ⟨b1, b2, b3, b4⟩ := vaB_rng (HVA.out k hk)
            have := V.co i hi k (by omega)
            show (fd k).natAbs < _ ∧ _ ∧ _
            omega) (by omega)
          have hDw : totD (fdN fd) n < wp 200 := wp_mono (totD_lt n fun k hk => by
            obtain ⟨b1, b2, b3, b4⟩ := vaB_rng (HVA.out k hk)
            show (fd k).natAbs < _
            omega) (by omega)
          have hrt := V.rt i hi
          refine (lcmp_calls g s.a s.len s.cap t.a t.len t.cap _ _ (y.rt i) 1 W hs ht hD hN hDw (whole_va hrt.1 hrt.2)).mono fun e w' ⟨he, hc⟩ => ⟨_, he, ?_, hc⟩
          rw [cmp_zero]
          unfold bE
          rw [show ((1 : Nat) : Int) = 1 from rfl, Int.mul_one]
        have EX : Hid (∀ k, k < n → bX y fn fd k = (decide (fn k < 0) || decide (0 < cpF (fn k) (fd k) (y.up k) 1))) := Lib.hid fun k hk => by
          have hu := V.up k (by omega)
          rw [cp_up (HVA.out k hk) hu.1 hu.2]
          unfold bX
          rw [HVA.out k hk]
          rfl
        have CP : Hid (∀ k, k < n → ∀ W, Calls Try.prog 24 #[.agg #[.int .i64 (fn k), .int .i64 (fd k)], .agg #[.int .i64 (y.up k), .int .i64 1]] W fun e w' => e = .returned (.int .i64 (cpF (fn k) (fd k) (y.up k) 1)) ∧ Cls W w') := Lib.hid fun k hk W => by
          have hu := V.up k (by omega)
          have hii := hi k hk
          exact Compare_calls (fn k) (fd k) (y.up k) 1 W hii.1.1 hii.1.2 hii.2.1 hii.2.2 (by omega) (by omega) (by omega) (by omega)
        obtain ⟨_, um, hu⟩ := h.U
        obtain ⟨_, rm, hrow, hr⟩ := h.R
        obtain ⟨_, bm, hb⟩ := h.B
        obtain ⟨_, xm, hxx⟩ := hx
        have hbn := V.b
        unfold maxLen at um rm bm xm
        unfold Sy.v at *
        have HU := Lib.hid hu
        have HR := Lib.hid hr
        have HB2 := Lib.hid hb
        have HX := Lib.hid hxx
        clear hu hr hrow hb hxx h hi V HVA
        generalize bX y fn fd = pX at *
        generalize bE y fn fd n = pE at *
        obtain ⟨⟨ua, un, uc⟩, ⟨ra, rn, rc⟩, ⟨ba, bn, bc⟩, up, row, co, rt⟩ := y
        simp only at *
        subst h2
        subst hbn
        clear d2
        have d2 : ((n : Int) != (n : Int)) = false := by simp
        go_enter Try.func9, Try.ntmps9
        go_wp2_with (first | (go_at_call 7; (with_reducible refine Calls.mono (C1.out _ ?_) ?_); (focus (repeat first | with_reducible exact Below.refl _ _ | with_reducible refine Below.setCell ?_ (by first | omega | (simp; done) | (simp; omega)) _ | with_reducible refine Below.alloc ?_ (by first | omega | (simp; done) | (simp; omega)) _ | with_reducible refine Below.drew ?_ | with_reducible refine Ext.on _ ?_ (by first | omega | (simp; done) | (simp; omega)))); rintro e _ ⟨rfl, ⟨x, rfl⟩⟩; have xs := x.size; (try simp at xs); have xa : w.heap.size < x.val.heap.size := (by omega); obtain ⟨_, c0, c1, c2⟩ := three_s ((x.below.block w.heap.size (by simp)).trans (heap_alloc_new w _))) | (go_at_call 23; (with_reducible refine Calls.mono (C2.out _ ?_) ?_); (focus (repeat first | with_reducible exact Below.refl _ _ | with_reducible refine Below.setCell ?_ (by first | omega | (simp; done) | (simp; omega)) _ | with_reducible refine Below.alloc ?_ (by first | omega | (simp; done) | (simp; omega)) _ | with_reducible refine Below.drew ?_ | with_reducible refine Ext.on _ ?_ (by first | omega | (simp; done) | (simp; omega)))); rintro e _ ⟨rfl, ⟨x2, rfl⟩⟩))
        go_loopw [27] (fun i wr => ∃ j : Nat, j ≤ n ∧ i = .int .i64 j ∧ Hid (fstI pX 0 n = fstI pX j (n - j)) ∧ Cls (w.alloc (.cells #[.slice ua n uc, .slice ra bn rc, .slice ba bn bc] 25)) wr) (fun i _ => n - (intOf i).toNat)
        case atStart => exact ⟨0, Nat.zero_le _, rfl, Lib.hid rfl, Cls.step x ⟨x2, rfl⟩⟩
        case round =>
          obtain ⟨j, hj, rfl, HE, x, rfl⟩ := hrel
          obtain ⟨hx0, c0, c1, c2⟩ := three_s ((x.below.block w.heap.size (by simp)).trans (heap_alloc_new w _))
          have xs := x.size
          simp at xs
          by_cases hltj : j < n
          · have hS : Hid (n - j = (n - (j + 1)) + 1) := Lib.hid (by omega)
            have HIT : Hid (pX j = true → anyB pX n = true) := Lib.hid fun hp => anyB_iff.2 ⟨j, hltj, hp⟩
            have NXT : Hid (pX j = false → fstI pX 0 n = fstI pX (j + 1) (n - (j + 1))) := Lib.hid fun hp => by rw [HE.out, hS.out, fstI_go hp]
            clear HE hS
            obtain ⟨b, off, ha, hb2, hc⟩ := HX.out.resolve_left (by omega)
            obtain ⟨bb, offb, ha', hb2', hc'⟩ := HU.out.resolve_left (by omega)
            subst ha ha'
            obtain ⟨r0, r1⟩ := hc j hltj
            have r2 := hc' j hltj
            have q0 := (x.below.cell (p := ⟨b, off + j * 2, none⟩) (by simp; omega)).trans (((Below.refl w.heap.size w).alloc (Nat.le_refl _) _).cell (p := ⟨b, off + j * 2, none⟩) hb2 |>.trans r0)
            have q1 := (x.below.cell (p := ⟨b, off + j * 2 + 1, none⟩) (by simp; omega)).trans (((Below.refl w.heap.size w).alloc (Nat.le_refl _) _).cell (p := ⟨b, off + j * 2 + 1, none⟩) hb2 |>.trans r1)
            have q2 := (x.below.cell (p := ⟨bb, offb + j, none⟩) (by simp; omega)).trans (((Below.refl w.heap.size w).alloc (Nat.le_refl _) _).cell (p := ⟨bb, offb + j, none⟩) hb2' |>.trans r2)
            have hbx : b < x.val.heap.size := (by omega)
            have hbx' : bb < x.val.heap.size := (by omega)
            have EXj := EX.out j hltj
            have CPj := Lib.hid (CP.out j hltj)
            clear hc hc' r0 r1 r2 C1 C2 CT CC HR HB2
            generalize cpF (fn j) (fd j) (up j) 1 = cr at *
            generalize fn j = fj at *
            generalize fd j = gj at *
            generalize up j = uj at *
            have HEX := Lib.hid EXj
            clear EXj
            by_cases hz : fj < 0
            · have d1 : decide (fj < 0) = true := decide_eq_true hz
              have HV := Lib.hid (HIT.out (by rw [HEX.out, d1]; rfl))
              clear HIT NXT
              go_wp2_with fail
              refine wp_region_ext (by kernel_rfl) (by kernel_rfl) ?_
              repeat (go_big_quiet_step (first | (go_at_call 25; with_reducible exact Cls.call (C3.out _ _)) | (go_at_call 24; with_reducible exact Cls.call (CPj.out _))))
              refine wpQuiet_nil ?_
              rintro _ ⟨z, rfl⟩
              go_wp2_with fail
              go_ret
              refine ⟨ret_bool (by rw [HV.out]; simp), Cls.of ?_⟩
              repeat first | with_reducible exact Below.refl _ _ | with_reducible refine Below.setCell ?_ (by first | omega | (simp; done) | (simp; omega)) _ | with_reducible refine Below.alloc ?_ (by first | omega | (simp; done) | (simp; omega)) _ | with_reducible refine Below.drew ?_ | with_reducible refine Ext.on _ ?_ (by first | omega | (simp; done) | (simp; omega))
            · have d1 : decide (fj < 0) = false := decide_eq_false hz
              by_cases hcr : 0 < cr
              · have d3 : decide (0 < cr) = true := decide_eq_true hcr
                have HV := Lib.hid (HIT.out (by rw [HEX.out, d3]; simp))
                clear HIT NXT
                go_wp2_with fail
                refine wp_region_ext (by kernel_rfl) (by kernel_rfl) ?_
                repeat (go_big_quiet_step (first | (go_at_call 25; with_reducible exact Cls.call (C3.out _ _)) | (go_at_call 24; with_reducible exact Cls.call (CPj.out _))))
                refine wpQuiet_nil ?_
                rintro _ ⟨z, rfl⟩
                go_wp2_with fail
                go_ret
                refine ⟨ret_bool (by rw [HV.out]; simp), Cls.of ?_⟩
                repeat first | with_reducible exact Below.refl _ _ | with_reducible refine Below.setCell ?_ (by first | omega | (simp; done) | (simp; omega)) _ | with_reducible refine Below.alloc ?_ (by first | omega | (simp; done) | (simp; omega)) _ | with_reducible refine Below.drew ?_ | with_reducible refine Ext.on _ ?_ (by first | omega | (simp; done) | (simp; omega))
              · have d3 : decide (0 < cr) = false := decide_eq_false hcr
                have HN := Lib.hid (NXT.out (by rw [HEX.out, d1, d3]; rfl))
                clear HIT NXT
                go_wp2_with fail
                refine wp_region_ext (by kernel_rfl) (by kernel_rfl) ?_
                repeat (go_big_quiet_step (first | (go_at_call 25; with_reducible exact Cls.call (C3.out _ _)) | (go_at_call 24; with_reducible exact Cls.call (CPj.out _))))
                refine wpQuiet_nil ?_
                rintro _ ⟨z, rfl⟩
                go_wp2_with fail
                go_roundw
                case rel => exact ⟨j + 1, by omega, by go_num, HN, Cls.of (by repeat first | with_reducible exact Below.refl _ _ | with_reducible refine Below.setCell ?_ (by first | omega | (simp; done) | (simp; omega)) _ | with_reducible refine Below.alloc ?_ (by first | omega | (simp; done) | (simp; omega)) _ | with_reducible refine Below.drew ?_ | with_reducible refine Ext.on _ ?_ (by first | omega | (simp; done) | (simp; omega)))⟩
                case measure => simp [intOf]; omega
          · have HZ : Hid (anyB pX n = false) := Lib.hid (by unfold anyB; rw [HE.out, show n - j = 0 by omega]; rfl)
            clear HE
            have HZ1 := HZ
            clear HZ EX CP HX HU
            go_wp2_with fail
            go_loopw [50] (fun i wr => ∃ j : Nat, j ≤ bn ∧ i = .int .i64 j ∧ Hid (fstI pE 0 bn = fstI pE j (bn - j)) ∧ Cls (w.alloc (.cells #[.slice ua n uc, .slice ra bn rc, .slice ba bn bc] 25)) wr) (fun i _ => bn - (intOf i).toNat)
            case atStart => exact ⟨0, Nat.zero_le _, rfl, Lib.hid rfl, x, rfl⟩
            case round =>
              obtain ⟨j, hj, rfl, HE, x, rfl⟩ := hrel
              obtain ⟨hx0, c0, c1, c2⟩ := three_s ((x.below.block w.heap.size (by simp)).trans (heap_alloc_new w _))
              have xs := x.size
              simp at xs
              by_cases hltj : j < bn
              · have hS : Hid (bn - j = (bn - (j + 1)) + 1) := Lib.hid (by omega)
                have HIT : Hid (pE j = true → anyB pE bn = true) := Lib.hid fun hp => anyB_iff.2 ⟨j, hltj, hp⟩
                have NXT : Hid (pE j = false → fstI pE 0 bn = fstI pE (j + 1) (bn - (j + 1))) := Lib.hid fun hp => by rw [HE.out, hS.out, fstI_go hp]
                clear HE hS
                obtain ⟨b, off, ha, hb2, hc⟩ := HR.out.resolve_left (by omega)
                obtain ⟨bb, offb, ha', hb2', hc'⟩ := HB2.out.resolve_left (by omega)
                subst ha ha'
                have r0 := hc j hltj
                have r2 := hc' j hltj
                have q0 := (x.below.cell (p := ⟨b, off + j, none⟩) (by simp; omega)).trans (((Below.refl w.heap.size w).alloc (Nat.le_refl _) _).cell (p := ⟨b, off + j, none⟩) hb2 |>.trans r0)
                have q2 := (x.below.cell (p := ⟨bb, offb + j, none⟩) (by simp; omega)).trans (((Below.refl w.heap.size w).alloc (Nat.le_refl _) _).cell (p := ⟨bb, offb + j, none⟩) hb2' |>.trans r2)
                have hbx : b < x.val.heap.size := (by omega)
                have hbx' : bb < x.val.heap.size := (by omega)
                have CTj := Lib.hid (CT.out j hltj)
                have CCj := Lib.hid (CC.out j hltj)
                clear hc hc' r0 r2 C1 C2 CT CC
                generalize totN (co j) fn (fdN fd) n = N1 at *
                generalize totD (fdN fd) n = D1 at *
                generalize row j = tj at *
                generalize rt j = rj at *
                obtain ⟨ta, tn, tc⟩ := tj
                simp only at q0 CTj
                go_wp2_with fail
                go_region_held3 (fun w' => w'.cell? ⟨w.heap.size, 2, none⟩ = some (.slice (some ⟨bb, offb, none⟩) bn bc) ∧ w'.cell? ⟨bb, offb + j, none⟩ = some (.int .i64 rj))
                  (first | (go_keep; done) | (refine ⟨?_, ?_⟩ <;> (rw [Ext.cell _ _ (by first | (simp; done) | (simp; omega) | omega)]; simp [*]; done)))
                  (first
                    | (go_at_call 26; (with_reducible refine Calls.mono (CTj.out _ ?_) ?_); (focus (repeat first | with_reducible exact Below.refl _ _ | with_reducible refine Below.setCell ?_ (by first | omega | (simp; done) | (simp; omega)) _ | with_reducible refine Below.alloc ?_ (by first | omega | (simp; done) | (simp; omega)) _ | with_reducible refine Below.drew ?_ | with_reducible refine Ext.on _ ?_ (by first | omega | (simp; done) | (simp; omega)))); rintro e _ ⟨g, s, t, rfl, hs, ht, ⟨y1, rfl⟩⟩; have y1s := y1.size; (try simp at y1s); have y1a : w.heap.size < y1.val.heap.size := (by omega); have y1b : b < y1.val.heap.size := (by omega); have y1c : bb < y1.val.heap.size := (by omega))
                    | (go_at_call 25; (with_reducible refine Calls.mono (C3.out _ _) ?_); rintro e _ ⟨rfl, ⟨y2, rfl⟩⟩; have y2s := y2.size; (try simp at y2s); have y2a : w.heap.size < y2.val.heap.size := (by omega); have y2b : b < y2.val.heap.size := (by omega); have y2c : bb < y2.val.heap.size := (by omega))
                    | (go_at_call 27; have G := Lib.hid (fun W hb => CCj.out W g s t (hs.later hb) (ht.later hb)); (with_reducible refine Calls.mono (G.out _ ?_) ?_); (focus (repeat first | with_reducible exact Below.refl _ _ | with_reducible refine Below.setCell ?_ (by first | omega | (simp; done) | (simp; omega)) _ | with_reducible refine Below.alloc ?_ (by first | omega | (simp; done) | (simp; omega)) _ | with_reducible refine Below.drew ?_ | with_reducible refine Ext.on _ ?_ (by first | omega | (simp; done) | (simp; omega)))); rintro e _ ⟨r, rfl, hr, ⟨y3, rfl⟩⟩; have y3s := y3.size; (try simp at y3s); have y3a : w.heap.size < y3.val.heap.size := (by omega); have y3b : b < y3.val.heap.size := (by omega); have y3c : bb < y3.val.heap.size := (by omega); clear G))
                all_goals
                  have HB3 : Below (w.alloc (.cells #[.slice ua n uc, .slice (some ⟨b, off, none⟩) bn rc, .slice (some ⟨bb, offb, none⟩) bn bc] 25)).heap.size (w.alloc (.cells #[.slice ua n uc, .slice (some ⟨b, off, none⟩) bn rc, .slice (some ⟨bb, offb, none⟩) bn bc] 25)) y3.val := by repeat first | with_reducible exact Below.refl _ _ | with_reducible refine Below.setCell ?_ (by first | omega | (simp; done) | (simp; omega)) _ | with_reducible refine Below.alloc ?_ (by first | omega | (simp; done) | (simp; omega)) _ | with_reducible refine Below.drew ?_ | with_reducible refine Ext.on _ ?_ (by first | omega | (simp; done) | (simp; omega))
                  have HB4 : Below w.heap.size w y3.val := by repeat first | with_reducible exact Below.refl _ _ | with_reducible refine Below.setCell ?_ (by first | omega | (simp; done) | (simp; omega)) _ | with_reducible refine Below.alloc ?_ (by first | omega | (simp; done) | (simp; omega)) _ | with_reducible refine Below.drew ?_ | with_reducible refine Ext.on _ ?_ (by first | omega | (simp; done) | (simp; omega))
                  cases hbb : pE j
                  · rw [hbb] at hr
                    have HN := Lib.hid (NXT.out hbb)
                    clear hbb HIT NXT
                    go_wp2_with fail
                    go_roundw
                    case rel => exact ⟨j + 1, by omega, by go_num, HN, Cls.of HB3⟩
                    case measure => simp [intOf]; omega
                  · rw [hbb] at hr
                    have HV := Lib.hid (HIT.out hbb)
                    clear hbb HIT NXT
                    go_wp2_with fail
                    go_ret
                    exact ⟨ret_bool (by rw [HV.out, HZ1.out]; simp), Cls.of HB4⟩
              · have HZ : Hid (anyB pE bn = false) := Lib.hid (by unfold anyB; rw [HE.out, show bn - j = 0 by omega]; rfl)
                clear HE
                go_wp2_with fail
                go_ret
                refine ⟨ret_bool (by rw [HZ.out, HZ1.out]; rfl), Cls.of ?_⟩
                repeat first | with_reducible exact Below.refl _ _ | with_reducible refine Below.setCell ?_ (by first | omega | (simp; done) | (simp; omega)) _ | with_reducible refine Below.alloc ?_ (by first | omega | (simp; done) | (simp; omega)) _ | with_reducible refine Below.drew ?_ | with_reducible refine Ext.on _ ?_ (by first | omega | (simp; done) | (simp; omega))
end Go.Proofs.Ytogjollefllajaa
