/-
  The reference's CheckSolution.
-/
import Derived.Test.YthbdkhmgopahbaaJ17
set_option linter.unusedVariables false
namespace Go.Proofs.Ythbdkhmgopahbaa
open Go Go.RowKit Go.Deep
def RB (g : Bool) (m d : Nat) (w : World) (e : Ending) (w' : World) : Prop := ∃ s t : Sl, e = .returned (.agg #[.bool g, .slice s.a s.len s.cap, .slice t.a t.len t.cap]) ∧ NumAt w' s m ∧ NumAt w' t d ∧ Cls w w'
theorem less_up (up fn : Int) {fd : Int} (h : 1 ≤ fd) : decide (up * ((fd.natAbs : Nat) : Int) < fn * ((1 : Nat) : Int)) = decide (up * fd < fn) := by
  rw [show ((1 : Nat) : Int) = 1 from rfl, Int.mul_one, show ((fd.natAbs : Nat) : Int) = fd by omega]
set_option maxHeartbeats 32000000 in
set_option maxRecDepth 20000 in
theorem rcheck_calls (y : Sy) (a : Option Addr) (n c : Nat) (fn fd : Nat → Int) (w : World) (h : SysA w y) (hx : FrsA w ⟨a, n, c⟩ fn fd) (hi : ∀ i, i < n → In64 (fn i) ∧ In64 (fd i)) (hn : n ≤ 15) :
    Calls Try.prog 45 #[y.v, .slice a n c] w fun e w' => e = .returned (.bool (csB y n fn fd)) ∧ Cls w w' := by
  have C1 := Lib.hid (fun (W : World) (hb : Below w.heap.size w W) => rlValid_calls y W (h.later hb))
  by_cases h1 : vaS y = 0
  case neg =>
    have e : csB y n fn fd = false := by unfold csB; rw [show (vaS y == 0) = false by simpa using h1]; rfl
    have d1 : (vaS y != 0) = true := by simpa using h1
    rw [e]
    unfold Sy.v at *
    clear e h1 h hx hi
    generalize vaS y = va at *
    generalize y.U.a = ua at *
    generalize y.U.len = un at *
    generalize y.U.cap = uc at *
    generalize y.R.a = ra at *
    generalize y.R.len = rn at *
    generalize y.R.cap = rc at *
    generalize y.B.a = ba at *
    generalize y.B.len = bn at *
    generalize y.B.cap = bc at *
    go_enter Try.func45, Try.ntmps45
    go_wp2_with (go_at_call 50; (with_reducible refine Calls.mono (C1.out _ ?_) ?_); (focus (repeat first | with_reducible exact Below.refl _ _ | with_reducible refine Below.setCell ?_ (by first | omega | (simp; done) | (simp; omega)) _ | with_reducible refine Below.alloc ?_ (by first | omega | (simp; done) | (simp; omega)) _ | with_reducible refine Below.drew ?_ | with_reducible refine Ext.on _ ?_ (by first | omega | (simp; done) | (simp; omega)))); rintro e _ ⟨rfl, ⟨x, rfl⟩⟩; have xs := x.size; (try simp at xs); have xa : w.heap.size < x.val.heap.size := (by omega); obtain ⟨_, c0, c1, c2⟩ := three_s ((x.below.block w.heap.size (by simp)).trans (heap_alloc_new w _)))
    go_ret
    refine ⟨rfl, Cls.of ?_⟩
    repeat first | with_reducible exact Below.refl _ _ | with_reducible refine Below.setCell ?_ (by first | omega | (simp; done) | (simp; omega)) _ | with_reducible refine Below.alloc ?_ (by first | omega | (simp; done) | (simp; omega)) _ | with_reducible refine Below.drew ?_ | with_reducible refine Ext.on _ ?_ (by first | omega | (simp; done) | (simp; omega))
  case pos =>
    have V := vaS_zero h1
    have e1 : csB y n fn fd = ((((n : Nat) : Int) == ((y.U.len : Nat) : Int)) && (!anyB (bX y fn fd) n && !anyB (bE y fn fd n) y.R.len)) := by unfold csB; rw [h1]; rfl
    rw [h1] at C1
    rw [e1]
    clear e1 h1
    by_cases h2 : n = y.U.len
    case neg =>
      have d2 : ((n : Int) != ((y.U.len : Nat) : Int)) = true := by simp; omega
      have d3 : ((n : Int) == ((y.U.len : Nat) : Int)) = false := by simp; omega
      rw [d3, Bool.false_and]
      unfold Sy.v at *
      clear d3 h2 h hx hi V
      generalize y.U.a = ua at *
      generalize y.U.len = un at *
      generalize y.U.cap = uc at *
      generalize y.R.a = ra at *
      generalize y.R.len = rn at *
      generalize y.R.cap = rc at *
      generalize y.B.a = ba at *
      generalize y.B.len = bn at *
      generalize y.B.cap = bc at *
      go_enter Try.func45, Try.ntmps45
      go_wp2_with (go_at_call 50; (with_reducible refine Calls.mono (C1.out _ ?_) ?_); (focus (repeat first | with_reducible exact Below.refl _ _ | with_reducible refine Below.setCell ?_ (by first | omega | (simp; done) | (simp; omega)) _ | with_reducible refine Below.alloc ?_ (by first | omega | (simp; done) | (simp; omega)) _ | with_reducible refine Below.drew ?_ | with_reducible refine Ext.on _ ?_ (by first | omega | (simp; done) | (simp; omega)))); rintro e _ ⟨rfl, ⟨x, rfl⟩⟩; have xs := x.size; (try simp at xs); have xa : w.heap.size < x.val.heap.size := (by omega); obtain ⟨_, c0, c1, c2⟩ := three_s ((x.below.block w.heap.size (by simp)).trans (heap_alloc_new w _)))
      go_ret
      refine ⟨rfl, Cls.of ?_⟩
      repeat first | with_reducible exact Below.refl _ _ | with_reducible refine Below.setCell ?_ (by first | omega | (simp; done) | (simp; omega)) _ | with_reducible refine Below.alloc ?_ (by first | omega | (simp; done) | (simp; omega)) _ | with_reducible refine Below.drew ?_ | with_reducible refine Ext.on _ ?_ (by first | omega | (simp; done) | (simp; omega))
    case pos =>
      have d3 : ((n : Int) == ((y.U.len : Nat) : Int)) = true := by simp; omega
      rw [d3, Bool.true_and]
      clear d3
      have HV1 : Hid (anyB (bX y fn fd) n = false → ∀ i, i < n → vaB (fn i) (fd i) = true) := Lib.hid fun hh i hi => by
        have := anyB_no.1 hh i hi
        unfold bX at this
        cases hv : vaB (fn i) (fd i) with
        | true => rfl
        | false => rw [hv] at this; cases this
      have EX : Hid (∀ k, bX y fn fd k = (!vaB (fn k) (fd k) || (decide (fn k < 0) || decide (y.up k * fd k < fn k)))) := Lib.hid fun k => rfl
      have EE : Hid (∀ i, bE y fn fd n i = !decide (totN (y.co i) fn (fdN fd) n = y.rt i * (totD (fdN fd) n : Int))) := Lib.hid fun i => rfl
      have HUP : Hid (∀ k, k < n → 0 ≤ y.up k ∧ y.up k ≤ 1000000000) := Lib.hid fun k hk => V.up k (by omega)
      have HCO : Hid (∀ i, i < y.R.len → ∀ k, k < n → (y.co i k).natAbs < 9223372036854775808) := Lib.hid fun i hi k hk => by have := V.co i hi k (by omega); omega
      have HRT : Hid (∀ i, i < y.R.len → -1000000000 ≤ y.rt i ∧ y.rt i ≤ 1000000000) := Lib.hid fun i hi => V.rt i hi
      have HROW : Hid (∀ i, i < y.R.len → (y.row i).len = n) := Lib.hid fun i hi => by rw [h2]; exact V.row i hi
      have CW : Hid (∀ k, k < n → ∀ W, Calls Try.prog 38 #[.int .i64 (y.up k)] W fun e w' => ∃ s t : Sl, e = .returned (.agg #[.bool (decide (y.up k < 0)), .slice s.a s.len s.cap, .slice t.a t.len t.cap]) ∧ NumAt w' s (y.up k).natAbs ∧ NumAt w' t 1 ∧ Cls W w') := Lib.hid fun k hk W => rWhole_calls (y.up k) W (by have := HUP.out k hk; unfold In64; omega)
      have CM : Hid (∀ k, k < n → ∀ W, Calls Try.prog 62 #[.agg #[.int .i64 (fn k), .int .i64 (fd k)]] W fun e w' => ∃ s t : Sl, e = .returned (.agg #[.bool (decide (fn k < 0)), .slice s.a s.len s.cap, .slice t.a t.len t.cap]) ∧ NumAt w' s (fn k).natAbs ∧ NumAt w' t (fd k).natAbs ∧ Cls W w') := Lib.hid fun k hk W => Make_calls (fn k) (fd k) W (hi k hk).1 (hi k hk).2
      have CL : Hid (∀ k, k < n → vaB (fn k) (fd k) = true → ∀ (W : World) (s t s2 t2 : Sl), NumAt W s (y.up k).natAbs → NumAt W t 1 → NumAt W s2 (fn k).natAbs → NumAt W t2 (fd k).natAbs → Calls Try.prog 42 #[.agg #[.bool (decide (y.up k < 0)), .slice s.a s.len s.cap, .slice t.a t.len t.cap], .agg #[.bool (decide (fn k < 0)), .slice s2.a s2.len s2.cap, .slice t2.a t2.len t2.cap]] W fun e w' => e = .returned (.bool (decide (y.up k * fd k < fn k))) ∧ Cls W w') := Lib.hid fun k hk hv W s t s2 t2 g1 g2 g3 g4 => by
        obtain ⟨b1, b2, b3, b4⟩ := vaB_rng hv
        have hu := HUP.out k hk
        have k1 : (y.up k).natAbs < 1000000000 ^ 100 := big_nat (by omega)
        have k2 : (fn k).natAbs < 1000000000 ^ 100 := big_nat (by omega)
        have k3 : (fd k).natAbs < 1000000000 ^ 100 := big_nat (by omega)
        have k4 : 0 < (fd k).natAbs := by clear k1 k2 k3; omega
        have := rLess_calls (y.up k) (fn k) 1 (fd k).natAbs s.a s.len s.cap t.a t.len t.cap s2.a s2.len s2.cap t2.a t2.len t2.cap W g1 g2 g3 g4 k1 one_big k2 k3 (by decide) k4
        refine this.mono fun e w' hh => ⟨?_, hh.2⟩
        rw [hh.1, less_up _ _ b1]
      have CW0 : Hid (∀ W, Calls Try.prog 38 #[.int .i64 0] W fun e w' => ∃ s t : Sl, e = .returned (.agg #[.bool false, .slice s.a s.len s.cap, .slice t.a t.len t.cap]) ∧ NumAt w' s 0 ∧ NumAt w' t 1 ∧ Cls W w') := Lib.hid fun W => rWhole_calls 0 W (by unfold In64; omega)
      obtain ⟨_, um, hu⟩ := h.U
      obtain ⟨_, rm, hrow, hr⟩ := h.R
      obtain ⟨_, bm, hb⟩ := h.B
      obtain ⟨_, xm, hxx⟩ := hx
      have hbn := V.b
      unfold maxLen at um rm bm xm
      unfold Sy.v at *
      have HU := Lib.hid hu
      have HR := Lib.hid hr
      have HRW := Lib.hid hrow
      have HB2 := Lib.hid hb
      have HX := Lib.hid hxx
      clear hu hr hrow hb hxx h hi V
      generalize bX y fn fd = pX at *
      generalize bE y fn fd n = pE at *
      obtain ⟨⟨ua, un, uc⟩, ⟨ra, rn, rc⟩, ⟨ba, bn, bc⟩, up, row, co, rt⟩ := y
      simp only at *
      subst h2
      subst hbn
      have d2 : ((n : Int) != (n : Int)) = false := by simp
      go_enter Try.func45, Try.ntmps45
      go_wp2_with (go_at_call 50; (with_reducible refine Calls.mono (C1.out _ ?_) ?_); (focus (repeat first | with_reducible exact Below.refl _ _ | with_reducible refine Below.setCell ?_ (by first | omega | (simp; done) | (simp; omega)) _ | with_reducible refine Below.alloc ?_ (by first | omega | (simp; done) | (simp; omega)) _ | with_reducible refine Below.drew ?_ | with_reducible refine Ext.on _ ?_ (by first | omega | (simp; done) | (simp; omega)))); rintro e _ ⟨rfl, ⟨x, rfl⟩⟩; have xs := x.size; (try simp at xs); have xa : w.heap.size < x.val.heap.size := (by omega); obtain ⟨_, c0, c1, c2⟩ := three_s ((x.below.block w.heap.size (by simp)).trans (heap_alloc_new w _)))
      go_loopw [5] (fun i wr => ∃ j : Nat, j ≤ n ∧ i = .int .i64 j ∧ Hid (fstI pX 0 n = fstI pX j (n - j)) ∧ Cls (w.alloc (.cells #[.slice ua n uc, .slice ra bn rc, .slice ba bn bc] 30)) wr) (fun i _ => n - (intOf i).toNat)
      case atStart => exact ⟨0, Nat.zero_le _, rfl, Lib.hid rfl, x, rfl⟩
      case round =>
        obtain ⟨j, hj, rfl, HE, x, rfl⟩ := hrel
        obtain ⟨hx0, c0, c1, c2⟩ := three_s ((x.below.block w.heap.size (by simp)).trans (heap_alloc_new w _))
        have xs := x.size
        simp at xs
        by_cases hltj : j < n
        · have hS : Hid (n - j = (n - (j + 1)) + 1) := Lib.hid (by omega)
          have HIT : Hid (pX j = true → anyB pX n = true) := Lib.hid fun hp => anyB_iff.2 ⟨j, hltj, hp⟩
          have NXT : Hid (pX j = false → fstI pX 0 n = fstI pX (j + 1) (n - (j + 1))) := Lib.hid fun hp => by rw [HE.out, hS.out, fstI_go hp]
          clear HE hS
          obtain ⟨b, off, ha, hb2, hc⟩ := HX.out.resolve_left (by omega)
          obtain ⟨bb, offb, ha', hb2', hc'⟩ := HU.out.resolve_left (by omega)
          subst ha ha'
          obtain ⟨r0, r1⟩ := hc j hltj
          have r2 := hc' j hltj
          have q0 := (x.below.cell (p := ⟨b, off + j * 2, none⟩) (by simp; omega)).trans (((Below.refl w.heap.size w).alloc (Nat.le_refl _) _).cell (p := ⟨b, off + j * 2, none⟩) hb2 |>.trans r0)
          have q1 := (x.below.cell (p := ⟨b, off + j * 2 + 1, none⟩) (by simp; omega)).trans (((Below.refl w.heap.size w).alloc (Nat.le_refl _) _).cell (p := ⟨b, off + j * 2 + 1, none⟩) hb2 |>.trans r1)
          have q2 := (x.below.cell (p := ⟨bb, offb + j, none⟩) (by simp; omega)).trans (((Below.refl w.heap.size w).alloc (Nat.le_refl _) _).cell (p := ⟨bb, offb + j, none⟩) hb2' |>.trans r2)
          have hbx : b < x.val.heap.size := (by omega)
          have hbx' : bb < x.val.heap.size := (by omega)
          have HEX := Lib.hid (EX.out j)
          have CVj := Lib.hid (fun W => rValid_calls (fn j) (fd j) W)
          have CWj := Lib.hid (CW.out j hltj)
          have CMj := Lib.hid (CM.out j hltj)
          have CLj := Lib.hid (CL.out j hltj)
          clear hc hc' r0 r1 r2 C1 HR HB2 CW CM CL HV1 EE HCO HRT HROW HRW HUP CW0
          generalize vaB (fn j) (fd j) = vj at *
          generalize decide (up j * fd j < fn j) = lj at *
          generalize decide (up j < 0) = gu at *
          generalize fn j = fj at *
          generalize fd j = gj at *
          generalize up j = uj at *
          cases vj
          · have HV := Lib.hid (HIT.out (by rw [HEX.out]; rfl))
            clear HIT NXT CLj CWj CMj
            go_wp2_with fail
            refine wp_region_ext (by kernel_rfl) (by kernel_rfl) ?_
            repeat (go_big_quiet_step (first | (go_at_call 61; with_reducible exact Cls.call (CVj.out _))))
            refine wpQuiet_nil ?_
            rintro _ ⟨z, rfl⟩
            go_wp2_with fail
            go_ret
            refine ⟨ret_bool (by rw [HV.out]; simp), Cls.of ?_⟩
            repeat first | with_reducible exact Below.refl _ _ | with_reducible refine Below.setCell ?_ (by first | omega | (simp; done) | (simp; omega)) _ | with_reducible refine Below.alloc ?_ (by first | omega | (simp; done) | (simp; omega)) _ | with_reducible refine Below.drew ?_ | with_reducible refine Ext.on _ ?_ (by first | omega | (simp; done) | (simp; omega))
          · by_cases hz : fj < 0
            · have d1 : decide (fj < 0) = true := decide_eq_true hz
              have HV := Lib.hid (HIT.out (by rw [HEX.out, d1]; rfl))
              clear HIT NXT CLj CWj CMj
              go_wp2_with fail
              refine wp_region_ext (by kernel_rfl) (by kernel_rfl) ?_
              repeat (go_big_quiet_step (first | (go_at_call 61; with_reducible exact Cls.call (CVj.out _))))
              refine wpQuiet_nil ?_
              rintro _ ⟨z, rfl⟩
              go_wp2_with fail
              go_ret
              refine ⟨ret_bool (by rw [HV.out]; simp), Cls.of ?_⟩
              repeat first | with_reducible exact Below.refl _ _ | with_reducible refine Below.setCell ?_ (by first | omega | (simp; done) | (simp; omega)) _ | with_reducible refine Below.alloc ?_ (by first | omega | (simp; done) | (simp; omega)) _ | with_reducible refine Below.drew ?_ | with_reducible refine Ext.on _ ?_ (by first | omega | (simp; done) | (simp; omega))
            · have d1 : decide (fj < 0) = false := decide_eq_false hz
              have CLk := Lib.hid (CLj.out rfl)
              clear CLj
              have CLj := CLk
              clear CLk
              rw [d1] at CLj CMj
              cases lj
              · have HN := Lib.hid (NXT.out (by rw [HEX.out, d1]; rfl))
                clear HIT NXT
                go_wp2_with fail
                go_region_held3 (fun w' => w'.cell? ⟨b, off + j * 2, none⟩ = some (.int .i64 fj) ∧ w'.cell? ⟨b, off + j * 2 + 1, none⟩ = some (.int .i64 gj) ∧ w'.cell? ⟨w.heap.size, 0, none⟩ = some (.slice (some ⟨bb, offb, none⟩) n uc) ∧ w'.cell? ⟨bb, offb + j, none⟩ = some (.int .i64 uj))
                  (first | (go_keep; done) | (refine ⟨?_, ?_, ?_, ?_⟩ <;> (rw [Ext.cell _ _ (by first | (simp; done) | (simp; omega) | omega)]; simp [*]; done)))
                  (first
                    | (go_at_call 61; (with_reducible refine Calls.mono (CVj.out _) ?_); rintro e _ ⟨rfl, ⟨y1, rfl⟩⟩; have y1s := y1.size; (try simp at y1s); have y1a : w.heap.size < y1.val.heap.size := (by omega); have y1_b : b < y1.val.heap.size := (by omega); have y1_bb : bb < y1.val.heap.size := (by omega))
                    | (go_at_call 38; (with_reducible refine Calls.mono (CWj.out _) ?_); rintro e _ ⟨s, t, rfl, hs, ht, ⟨y2, rfl⟩⟩; have y2s := y2.size; (try simp at y2s); have y2a : w.heap.size < y2.val.heap.size := (by omega); have y2_b : b < y2.val.heap.size := (by omega); have y2_bb : bb < y2.val.heap.size := (by omega))
                    | (go_at_call 62; (with_reducible refine Calls.mono (CMj.out _) ?_); rintro e _ ⟨s2, t2, rfl, hs2, ht2, ⟨y3, rfl⟩⟩; have y3s := y3.size; (try simp at y3s); have y3a : w.heap.size < y3.val.heap.size := (by omega); have y3_b : b < y3.val.heap.size := (by omega); have y3_bb : bb < y3.val.heap.size := (by omega))
                    | (go_at_call 42; have G := Lib.hid (fun W hb hb2 => CLj.out W s t s2 t2 (hs.later hb) (ht.later hb) (hs2.later hb2) (ht2.later hb2)); (with_reducible refine Calls.mono (G.out _ ?_ ?_) ?_); (focus (repeat first | with_reducible exact Below.refl _ _ | with_reducible refine Below.setCell ?_ (by first | omega | (simp; done) | (simp; omega)) _ | with_reducible refine Below.alloc ?_ (by first | omega | (simp; done) | (simp; omega)) _ | with_reducible refine Below.drew ?_ | with_reducible refine Ext.on _ ?_ (by first | omega | (simp; done) | (simp; omega)))); (focus (repeat first | with_reducible exact Below.refl _ _ | with_reducible refine Below.setCell ?_ (by first | omega | (simp; done) | (simp; omega)) _ | with_reducible refine Below.alloc ?_ (by first | omega | (simp; done) | (simp; omega)) _ | with_reducible refine Below.drew ?_ | with_reducible refine Ext.on _ ?_ (by first | omega | (simp; done) | (simp; omega)))); rintro e _ ⟨rfl, ⟨y4, rfl⟩⟩; have y4s := y4.size; (try simp at y4s); have y4a : w.heap.size < y4.val.heap.size := (by omega); have y4_b : b < y4.val.heap.size := (by omega); have y4_bb : bb < y4.val.heap.size := (by omega); clear G))
                all_goals
                  go_wp2_with fail
                  go_roundw
                  case rel => exact ⟨j + 1, by omega, by go_num, HN, Cls.of (by repeat first | with_reducible exact Below.refl _ _ | with_reducible refine Below.setCell ?_ (by first | omega | (simp; done) | (simp; omega)) _ | with_reducible refine Below.alloc ?_ (by first | omega | (simp; done) | (simp; omega)) _ | with_reducible refine Below.drew ?_ | with_reducible refine Ext.on _ ?_ (by first | omega | (simp; done) | (simp; omega)))⟩
                  case measure => simp [intOf]; omega
              · have HV := Lib.hid (HIT.out (by rw [HEX.out, d1]; rfl))
                clear HIT NXT
                go_wp2_with fail
                go_region_held3 (fun w' => w'.cell? ⟨b, off + j * 2, none⟩ = some (.int .i64 fj) ∧ w'.cell? ⟨b, off + j * 2 + 1, none⟩ = some (.int .i64 gj) ∧ w'.cell? ⟨w.heap.size, 0, none⟩ = some (.slice (some ⟨bb, offb, none⟩) n uc) ∧ w'.cell? ⟨bb, offb + j, none⟩ = some (.int .i64 uj))
                  (first | (go_keep; done) | (refine ⟨?_, ?_, ?_, ?_⟩ <;> (rw [Ext.cell _ _ (by first | (simp; done) | (simp; omega) | omega)]; simp [*]; done)))
                  (first
                    | (go_at_call 61; (with_reducible refine Calls.mono (CVj.out _) ?_); rintro e _ ⟨rfl, ⟨y1, rfl⟩⟩; have y1s := y1.size; (try simp at y1s); have y1a : w.heap.size < y1.val.heap.size := (by omega); have y1_b : b < y1.val.heap.size := (by omega); have y1_bb : bb < y1.val.heap.size := (by omega))
                    | (go_at_call 38; (with_reducible refine Calls.mono (CWj.out _) ?_); rintro e _ ⟨s, t, rfl, hs, ht, ⟨y2, rfl⟩⟩; have y2s := y2.size; (try simp at y2s); have y2a : w.heap.size < y2.val.heap.size := (by omega); have y2_b : b < y2.val.heap.size := (by omega); have y2_bb : bb < y2.val.heap.size := (by omega))
                    | (go_at_call 62; (with_reducible refine Calls.mono (CMj.out _) ?_); rintro e _ ⟨s2, t2, rfl, hs2, ht2, ⟨y3, rfl⟩⟩; have y3s := y3.size; (try simp at y3s); have y3a : w.heap.size < y3.val.heap.size := (by omega); have y3_b : b < y3.val.heap.size := (by omega); have y3_bb : bb < y3.val.heap.size := (by omega))
                    | (go_at_call 42; have G := Lib.hid (fun W hb hb2 => CLj.out W s t s2 t2 (hs.later hb) (ht.later hb) (hs2.later hb2) (ht2.later hb2)); (with_reducible refine Calls.mono (G.out _ ?_ ?_) ?_); (focus (repeat first | with_reducible exact Below.refl _ _ | with_reducible refine Below.setCell ?_ (by first | omega | (simp; done) | (simp; omega)) _ | with_reducible refine Below.alloc ?_ (by first | omega | (simp; done) | (simp; omega)) _ | with_reducible refine Below.drew ?_ | with_reducible refine Ext.on _ ?_ (by first | omega | (simp; done) | (simp; omega)))); (focus (repeat first | with_reducible exact Below.refl _ _ | with_reducible refine Below.setCell ?_ (by first | omega | (simp; done) | (simp; omega)) _ | with_reducible refine Below.alloc ?_ (by first | omega | (simp; done) | (simp; omega)) _ | with_reducible refine Below.drew ?_ | with_reducible refine Ext.on _ ?_ (by first | omega | (simp; done) | (simp; omega)))); rintro e _ ⟨rfl, ⟨y4, rfl⟩⟩; have y4s := y4.size; (try simp at y4s); have y4a : w.heap.size < y4.val.heap.size := (by omega); have y4_b : b < y4.val.heap.size := (by omega); have y4_bb : bb < y4.val.heap.size := (by omega); clear G))
                all_goals
                  go_wp2_with fail
                  go_ret
                  refine ⟨ret_bool (by rw [HV.out]; simp), Cls.of ?_⟩
                  repeat first | with_reducible exact Below.refl _ _ | with_reducible refine Below.setCell ?_ (by first | omega | (simp; done) | (simp; omega)) _ | with_reducible refine Below.alloc ?_ (by first | omega | (simp; done) | (simp; omega)) _ | with_reducible refine Below.drew ?_ | with_reducible refine Ext.on _ ?_ (by first | omega | (simp; done) | (simp; omega))
        · have HZ : Hid (anyB pX n = false) := Lib.hid (by unfold anyB; rw [HE.out, show n - j = 0 by omega]; rfl)
          clear HE
          have HZ1 := HZ
          have HVA := Lib.hid (HV1.out HZ.out)
          have HDp : Hid (∀ k, k ≤ n → 0 < totD (fdN fd) k) := Lib.hid fun k hk => totD_pos k fun i hi => by
            have := (vaB_rng (HVA.out i (by omega))).1
            show 0 < (fd i).natAbs
            omega
          have HBd : Hid (∀ i, i < bn → ∀ k, k ≤ n → (totN (co i) fn (fdN fd) k).natAbs < wp 33 ∧ totD (fdN fd) k < wp 33) := Lib.hid fun i hi k hk => by
            refine ⟨wp_mono (totN_lt k fun m hm => ?_) (by omega), wp_mono (totD_lt k fun m hm => ?_) (by omega)⟩
            · obtain ⟨b1, b2, b3, b4⟩ := vaB_rng (HVA.out m (by omega))
              have := HCO.out i hi m (by omega)
              show (fd m).natAbs < _ ∧ _ ∧ _
              omega
            · obtain ⟨b1, b2, b3, b4⟩ := vaB_rng (HVA.out m (by omega))
              show (fd m).natAbs < _
              omega
          clear HZ HU
          go_wp2_with fail
          go_loopw [6] (fun i wr => ∃ j : Nat, j ≤ bn ∧ i = .int .i64 j ∧ Hid (fstI pE 0 bn = fstI pE j (bn - j)) ∧ Cls (w.alloc (.cells #[.slice ua n uc, .slice ra bn rc, .slice ba bn bc] 30)) wr) (fun i _ => bn - (intOf i).toNat)
          case atStart => exact ⟨0, Nat.zero_le _, rfl, Lib.hid rfl, x, rfl⟩
          case round =>
            obtain ⟨j, hj, rfl, HE, x, rfl⟩ := hrel
            obtain ⟨hx0, c0, c1, c2⟩ := three_s ((x.below.block w.heap.size (by simp)).trans (heap_alloc_new w _))
            have xs := x.size
            simp at xs
            by_cases hltj : j < bn
            · have hS : Hid (bn - j = (bn - (j + 1)) + 1) := Lib.hid (by omega)
              have HIT : Hid (pE j = true → anyB pE bn = true) := Lib.hid fun hp => anyB_iff.2 ⟨j, hltj, hp⟩
              have NXT : Hid (pE j = false → fstI pE 0 bn = fstI pE (j + 1) (bn - (j + 1))) := Lib.hid fun hp => by rw [HE.out, hS.out, fstI_go hp]
              clear HE hS
              obtain ⟨b, off, ha, hb2, hc⟩ := HR.out.resolve_left (by omega)
              obtain ⟨bb, offb, ha', hb2', hc'⟩ := HB2.out.resolve_left (by omega)
              subst ha ha'
              have r0 := hc j hltj
              have r2 := hc' j hltj
              have hbx : b < x.val.heap.size := (by omega)
              have hbx' : bb < x.val.heap.size := (by omega)
              have HRj := HRW.out j hltj
              have htn := HROW.out j hltj
              obtain ⟨tj, htj⟩ : ∃ tj, row j = tj := ⟨_, rfl⟩
              rw [htj] at r0 HRj htn
              obtain ⟨ta, tn, tc⟩ := tj
              simp only at r0 HRj htn
              obtain ⟨tle, tmx, HRj⟩ := HRj
              simp only at tle tmx HRj
              unfold maxLen at tmx
              have HRj := Lib.hid HRj
              clear hc hc' htj
              have htn2 := htn.symm
              clear htn
              subst htn2
              go_wp2_with (go_at_call 38; (with_reducible refine Calls.mono (CW0.out _) ?_); rintro e _ ⟨s, t, rfl, hs, ht, ⟨y1, rfl⟩⟩; have y1s := y1.size)
              have y1w : w.heap.size + 1 ≤ y1.val.heap.size := (by omega)
              have H0 : Hid (RTotAt (w.alloc (.cells #[.slice ua n uc, .slice (some ⟨b, off, none⟩) bn rc, .slice (some ⟨bb, offb, none⟩) bn bc] 30)) y1.val.heap.size (totN (co j) fn (fdN fd) 0) (totD (fdN fd) 0) (y1.val.alloc (.cells #[.bool false, .slice s.a s.len s.cap, .slice t.a t.len t.cap] 67))) := Lib.hid (by
                refine ⟨s, t, ?_, ?_, ?_, by simpa using y1w, ?_⟩
                · show _ = some (Obj.cells #[.bool (decide (frI 0 1 < 0)), _, _] _)
                  rw [fr_base.1]; exact heap_alloc_new y1.val _
                · show NumAt _ _ (frI 0 1).natAbs
                  rw [fr_base.1]; exact hs.later ((Below.refl _ _).alloc (Nat.le_refl _) _)
                · show NumAt _ _ (frd 0 1)
                  rw [fr_base.2]; exact ht.later ((Below.refl _ _).alloc (Nat.le_refl _) _)
                · exact (y1.on x.below x.size).alloc (by simpa using y1w) _)
              clear hs ht
              go_loopw [8] (fun i wr => ∃ k : Nat, k ≤ n ∧ i = .int .i64 k ∧ Hid (RTotAt (w.alloc (.cells #[.slice ua n uc, .slice (some ⟨b, off, none⟩) bn rc, .slice (some ⟨bb, offb, none⟩) bn bc] 30)) y1.val.heap.size (totN (co j) fn (fdN fd) k) (totD (fdN fd) k) wr)) (fun i _ => n - (intOf i).toNat)
              case atStart => exact ⟨0, Nat.zero_le _, rfl, H0⟩
              case round =>
                obtain ⟨k, hk, rfl, hT⟩ := hrel
                obtain ⟨s, t, hT7, hs7, ht7, hb7, hBL⟩ := hT.out
                have hBs := hBL.size
                simp at hBs
                obtain ⟨hb7l, _, _, _, e0, e1, e2⟩ := three_n hT7
                obtain ⟨hx0, c0, c1, c2⟩ := three_s ((hBL.block w.heap.size (by simp)).trans (heap_alloc_new w _))
                have HT7 := Lib.hid hT7
                have HBL := Lib.hid hBL
                have HS7 := Lib.hid hs7
                have HT7' := Lib.hid ht7
                have hbl2 : b < wr.heap.size := by omega
                have hbl3 : bb < wr.heap.size := by omega
                have q2w := (HBL.out.cell (p := ⟨bb, offb + j, none⟩) (by simp; omega)).trans (((Below.refl w.heap.size w).alloc (Nat.le_refl _) _).cell (p := ⟨bb, offb + j, none⟩) hb2' |>.trans r2)
                have q0w := (HBL.out.cell (p := ⟨b, off + j, none⟩) (by simp; omega)).trans (((Below.refl w.heap.size w).alloc (Nat.le_refl _) _).cell (p := ⟨b, off + j, none⟩) hb2 |>.trans r0)
                clear hT7 hs7 ht7 hBL
                by_cases hltk : k < n
                · obtain ⟨b9, off9, ha9, hb9, hc9⟩ := HX.out.resolve_left (by omega)
                  obtain ⟨b8, off8, ha8, hb8, hc8⟩ := HRj.out.resolve_left (by omega)
                  subst ha9 ha8
                  obtain ⟨p0, p1⟩ := hc9 k hltk
                  have p2 := hc8 k (by omega)
                  have u0 := (HBL.out.cell (p := ⟨b9, off9 + k * 2, none⟩) (by simp; omega)).trans (((Below.refl w.heap.size w).alloc (Nat.le_refl _) _).cell (p := ⟨b9, off9 + k * 2, none⟩) hb9 |>.trans p0)
                  have u1 := (HBL.out.cell (p := ⟨b9, off9 + k * 2 + 1, none⟩) (by simp; omega)).trans (((Below.refl w.heap.size w).alloc (Nat.le_refl _) _).cell (p := ⟨b9, off9 + k * 2 + 1, none⟩) hb9 |>.trans p1)
                  have u2 := (HBL.out.cell (p := ⟨b8, off8 + k, none⟩) (by simp; omega)).trans (((Below.refl w.heap.size w).alloc (Nat.le_refl _) _).cell (p := ⟨b8, off8 + k, none⟩) hb8 |>.trans p2)
                  have hbl9 : b9 < wr.heap.size := by omega
                  have hbl8 : b8 < wr.heap.size := by omega
                  have htk : k < n := hltk
                  have hvk := HVA.out k hltk
                  have hfp : 0 < fdN fd k := by
                    have := (vaB_rng hvk).1
                    show 0 < (fd k).natAbs
                    omega
                  have hck := HCO.out j hltj k hltk
                  have hBk := HBd.out j hltj k hk
                  clear hc9 hc8 p0 p1 p2 C1 HRW HROW HUP CW CL
                  by_cases hf0 : fn k = 0
                  · have d1 : ((fn k) != 0) = false := by simp [hf0]
                    have d1' : ((fn k) == 0) = true := by simp [hf0]
                    have HSK := Lib.hid (rskip (totN (co j) fn (fdN fd) k) (totD (fdN fd) k) (fn k) (co j k) (fdN fd k) (HDp.out k hk) hfp (by left; exact hf0))
                    clear hf0 HT7 HS7 HT7' HDp HBd
                    go_wp2_with fail
                    go_roundw
                    case rel => exact ⟨k + 1, by omega, by go_num, Lib.hid (RTotAt.scale HSK.out.1 HSK.out.2 hT.out)⟩
                    case measure => simp [intOf]; omega
                  · have d1 : ((fn k) != 0) = true := by simpa using hf0
                    have d1' : ((fn k) == 0) = false := by simpa using hf0
                    by_cases hg0 : co j k = 0
                    · have d2 : ((co j k) != 0) = false := by simp [hg0]
                      have d2' : ((co j k) == 0) = true := by simp [hg0]
                      have HSK := Lib.hid (rskip (totN (co j) fn (fdN fd) k) (totD (fdN fd) k) (fn k) (co j k) (fdN fd k) (HDp.out k hk) hfp (by right; exact hg0))
                      clear hg0 HT7 HS7 HT7' HDp HBd
                      go_wp2_with fail
                      go_roundw
                      case rel => exact ⟨k + 1, by omega, by go_num, Lib.hid (RTotAt.scale HSK.out.1 HSK.out.2 hT.out)⟩
                      case measure => simp [intOf]; omega
                    · have d2 : ((co j k) != 0) = true := by simpa using hg0
                      have d2' : ((co j k) == 0) = false := by simpa using hg0
                      have CMk := Lib.hid (CM.out k hltk)
                      have CWk := Lib.hid (fun W => rWhole_calls (co j k) W (by unfold In64; omega))
                      have CTk : Hid (∀ (W : World) (s2 t2 s3 t3 : Sl), NumAt W s2 (fn k).natAbs → NumAt W t2 (fd k).natAbs → NumAt W s3 (co j k).natAbs → NumAt W t3 1 → Calls Try.prog 39 #[.agg #[.bool (decide (fn k < 0)), .slice s2.a s2.len s2.cap, .slice t2.a t2.len t2.cap], .agg #[.bool (decide (co j k < 0)), .slice s3.a s3.len s3.cap, .slice t3.a t3.len t3.cap]] W (RB (decide (frI (fn k * co j k) ((fd k).natAbs * 1) < 0)) (frI (fn k * co j k) ((fd k).natAbs * 1)).natAbs (frd (fn k * co j k) ((fd k).natAbs * 1)) W)) := Lib.hid fun W s2 t2 s3 t3 h1 h2 h3 h4 => rterm_calls (fn k) (co j k) (fd k) hvk hck W s2 t2 s3 t3 h1 h2 h3 h4
                      have CPk : Hid (∀ (W : World) (s4 t4 : Sl), Below wr.heap.size wr W → NumAt W s4 (frI (fn k * co j k) ((fd k).natAbs * 1)).natAbs → NumAt W t4 (frd (fn k * co j k) ((fd k).natAbs * 1)) → Calls Try.prog 41 #[.agg #[.bool (decide (frI (totN (co j) fn (fdN fd) k) (totD (fdN fd) k) < 0)), .slice s.a s.len s.cap, .slice t.a t.len t.cap], .agg #[.bool (decide (frI (fn k * co j k) ((fd k).natAbs * 1) < 0)), .slice s4.a s4.len s4.cap, .slice t4.a t4.len t4.cap]] W (RBig W (totN (co j) fn (fdN fd) (k + 1)) (totD (fdN fd) (k + 1)))) := Lib.hid fun W s4 t4 hb h3 h4 => radd_calls _ _ (fn k) (co j k) (fd k) (HDp.out k hk) hBk.1 hBk.2 hvk hck W s t s4 t4 (HS7.out.later hb) (HT7'.out.later hb) h3 h4
                      generalize hN1 : totN (co j) fn (fdN fd) (k + 1) = N1 at *
                      generalize hD1 : totD (fdN fd) (k + 1) = D1 at *
                      have HN1 := Lib.hid hN1
                      have HD1 := Lib.hid hD1
                      clear hN1 hD1 hf0 hg0 hT CM EX HV1 EE HCO HRT CW0 HX HRj HVA HDp HBd hBk hck hvk hfp HR HB2 HS7 HT7'
                      generalize decide (frI (totN (co j) fn (fdN fd) k) (totD (fdN fd) k) < 0) = g7 at *
                      generalize frd (fn k * co j k) ((fd k).natAbs * 1) = v3 at *
                      generalize frI (fn k * co j k) ((fd k).natAbs * 1) = v2 at *
                      generalize decide (v2 < 0) = g4 at *
                      generalize decide (fn k < 0) = g1 at *
                      generalize decide (co j k < 0) = g2 at *
                      generalize fn k = fk at *
                      generalize fd k = gk at *
                      generalize co j k = ck at *
                      go_wp2_with fail
                      refine wp_region_lin (by kernel_rfl) (by kernel_rfl) ?_
                      intro y0
                      have y0s := y0.size
                      repeat (refine lin_calm rfl ?_; intro KK hKK; go_big_quiet_step (fail); refine wpQuiet_nil ?_; refine hKK _ ?_; clear hKK KK)
                      refine lin_free rfl ?_
                      intro KK hKK
                      go_wp2_with (go_at_call 62; (with_reducible refine Calls.mono (CMk.out _) ?_); rintro e _ ⟨s2, t2, rfl, hs2, ht2, hcz⟩; obtain ⟨z1, rfl⟩ := Cls.step y0 hcz; have z1s := z1.size; have HZ2 := Lib.hid hs2; have HZ3 := Lib.hid ht2; clear hs2 ht2)
                      refine hKK _ _ (.inr ⟨z1, rfl⟩) ?_
                      clear hKK KK
                      repeat (refine lin_calm rfl ?_; intro KK hKK; go_big_quiet_step (fail); refine wpQuiet_nil ?_; refine hKK _ ?_; clear hKK KK)
                      refine lin_free rfl ?_
                      intro KK hKK
                      go_wp2_with (go_at_call 38; (with_reducible refine Calls.mono (CWk.out _) ?_); rintro e _ ⟨s3, t3, rfl, hs3, ht3, hcz2⟩; have HY2 := Lib.hid (HZ2.out.later hcz2.below); have HY3 := Lib.hid (HZ3.out.later hcz2.below); obtain ⟨z2, rfl⟩ := Cls.step z1 hcz2; have z2s := z2.size; have HY4 := Lib.hid hs3; have HY5 := Lib.hid ht3; clear hs3 ht3)
                      refine hKK _ _ (.inr ⟨z2, rfl⟩) ?_
                      clear hKK KK
                      repeat (refine lin_calm rfl ?_; intro KK hKK; go_big_quiet_step (fail); refine wpQuiet_nil ?_; refine hKK _ ?_; clear hKK KK)
                      refine lin_free rfl ?_
                      intro KK hKK
                      go_wp2_with (go_at_call 39; (with_reducible refine Calls.mono (CTk.out _ s2 t2 s3 t3 HY2.out HY3.out HY4.out HY5.out) ?_); rintro e _ ⟨s4, t4, rfl, hs4, ht4, hcz3⟩; obtain ⟨z3, rfl⟩ := Cls.step z2 hcz3; have z3s := z3.size; have HX4 := Lib.hid hs4; have HX5 := Lib.hid ht4; clear hs4 ht4)
                      refine hKK _ _ (.inr ⟨z3, rfl⟩) ?_
                      clear hKK KK
                      repeat (refine lin_calm rfl ?_; intro KK hKK; go_big_quiet_step (fail); refine wpQuiet_nil ?_; refine hKK _ ?_; clear hKK KK)
                      refine lin_free rfl ?_
                      intro KK hKK
                      go_wp2_with (go_at_call 41; (with_reducible refine Calls.mono (CPk.out z3.val s4 t4 z3.below HX4.out HX5.out) ?_); rintro e _ ⟨s5, t5, rfl, hs5, ht5, hcz4⟩; obtain ⟨z4, rfl⟩ := Cls.step z3 hcz4; have z4s := z4.size; have HT4 := Lib.hid ((z4.below.block y1.val.heap.size hb7l).trans HT7.out); obtain ⟨m0, m1, m2, m3, m4, m5, m6⟩ := three_n HT4.out)
                      refine hKK _ _ (.inr ⟨z4, rfl⟩) ?_
                      clear hKK KK
                      repeat (refine lin_calm rfl ?_; intro KK hKK; go_big_quiet_step (fail); refine wpQuiet_nil ?_; refine hKK _ ?_; clear hKK KK)
                      refine lin_free rfl ?_
                      intro KK hKK
                      go_wp2_with fail
                      refine hKK _ _ (by first | exact .inl rfl | exact .inl trivial) ?_
                      clear hKK KK
                      refine lin_nil ?_
                      have HF := Lib.hid (RTotAt.mk' (N := N1) (D := D1) HT4.out hb7 hs5 ht5 (z4.on HBL.out (by simpa using hBs)))
                      go_wp2_with fail
                      go_roundw
                      case rel => exact ⟨k + 1, by omega, by go_num, Lib.hid (by rw [HN1.out, HD1.out]; exact HF.out)⟩
                      case measure => simp [intOf]; omega
                · have hkn : n = k := by omega
                  subst hkn
                  have hBk := HBd.out j hltj n (Nat.le_refl _)
                  have hrt := HRT.out j hltj
                  have CSj : Hid (∀ (W : World) (s2 t2 : Sl), Below wr.heap.size wr W → NumAt W s2 (-(rt j)).natAbs → NumAt W t2 1 → Calls Try.prog 41 #[.agg #[.bool (decide (frI (totN (co j) fn (fdN fd) n) (totD (fdN fd) n) < 0)), .slice s.a s.len s.cap, .slice t.a t.len t.cap], .agg #[.bool (decide (-(rt j) < 0)), .slice s2.a s2.len s2.cap, .slice t2.a t2.len t2.cap]] W (RB (decide (frI (frI (totN (co j) fn (fdN fd) n) (totD (fdN fd) n) * ((1 : Nat) : Int) + -(rt j) * (frd (totN (co j) fn (fdN fd) n) (totD (fdN fd) n) : Int)) (frd (totN (co j) fn (fdN fd) n) (totD (fdN fd) n) * 1) < 0)) (frI (frI (totN (co j) fn (fdN fd) n) (totD (fdN fd) n) * ((1 : Nat) : Int) + -(rt j) * (frd (totN (co j) fn (fdN fd) n) (totD (fdN fd) n) : Int)) (frd (totN (co j) fn (fdN fd) n) (totD (fdN fd) n) * 1)).natAbs (frd (frI (totN (co j) fn (fdN fd) n) (totD (fdN fd) n) * ((1 : Nat) : Int) + -(rt j) * (frd (totN (co j) fn (fdN fd) n) (totD (fdN fd) n) : Int)) (frd (totN (co j) fn (fdN fd) n) (totD (fdN fd) n) * 1)) W)) := Lib.hid fun W s2 t2 hb h3 h4 =>
                    rlast_calls _ (rt j) _ (HDp.out n (Nat.le_refl _)) hBk.1 hBk.2 (by omega) W s t s2 t2 (HS7.out.later hb) (HT7'.out.later hb) h3 h4
                  have SGN : Hid (∀ (W : World) (s4 t4 : Sl), NumAt W s4 (frI (frI (totN (co j) fn (fdN fd) n) (totD (fdN fd) n) * ((1 : Nat) : Int) + -(rt j) * (frd (totN (co j) fn (fdN fd) n) (totD (fdN fd) n) : Int)) (frd (totN (co j) fn (fdN fd) n) (totD (fdN fd) n) * 1)).natAbs → Calls Try.prog 40 #[.agg #[.bool (decide (frI (frI (totN (co j) fn (fdN fd) n) (totD (fdN fd) n) * ((1 : Nat) : Int) + -(rt j) * (frd (totN (co j) fn (fdN fd) n) (totD (fdN fd) n) : Int)) (frd (totN (co j) fn (fdN fd) n) (totD (fdN fd) n) * 1) < 0)), .slice s4.a s4.len s4.cap, .slice t4.a t4.len t4.cap]] W fun e w' => ∃ r, e = .returned (.int .i64 r) ∧ (r != 0) = pE j ∧ Cls W w') := Lib.hid fun W s4 t4 h4 => by
                    rw [EE.out j]; exact rsign_calls _ (rt j) _ (HDp.out n (Nat.le_refl _)) W s4 t4 h4
                  have CW2 := Lib.hid (fun W => rWhole_calls (-(rt j)) W (by unfold In64; omega))
                  clear CW CM CL EX HV1 EE HCO HRT HROW HRW HUP CW0 HX HRj HVA HDp HBd hBk hT
                  generalize frd (frI (totN (co j) fn (fdN fd) n) (totD (fdN fd) n) * ((1 : Nat) : Int) + -(rt j) * (frd (totN (co j) fn (fdN fd) n) (totD (fdN fd) n) : Int)) (frd (totN (co j) fn (fdN fd) n) (totD (fdN fd) n) * 1) = dq at *
                  generalize frI (frI (totN (co j) fn (fdN fd) n) (totD (fdN fd) n) * ((1 : Nat) : Int) + -(rt j) * (frd (totN (co j) fn (fdN fd) n) (totD (fdN fd) n) : Int)) (frd (totN (co j) fn (fdN fd) n) (totD (fdN fd) n) * 1) = xq at *
                  generalize decide (xq < 0) = gq at *
                  generalize decide (frI (totN (co j) fn (fdN fd) n) (totD (fdN fd) n) < 0) = g7 at *
                  generalize decide (-(rt j) < 0) = gw at *
                  generalize rt j = rj at *
                  obtain ⟨g1, g2⟩ := hrt
                  have hwr : IntKind.i64.wrap (-rj) = -rj := (by rw [IntKind.wrap_i64]; omega)
                  go_wp2_with fail
                  go_region_held3 (fun w' => w'.cell? ⟨y1.val.heap.size, 0, none⟩ = some (.bool g7) ∧ w'.cell? ⟨y1.val.heap.size, 1, none⟩ = some (.slice s.a s.len s.cap) ∧ w'.cell? ⟨y1.val.heap.size, 2, none⟩ = some (.slice t.a t.len t.cap) ∧ w'.cell? ⟨w.heap.size, 2, none⟩ = some (.slice (some ⟨bb, offb, none⟩) bn bc) ∧ w'.cell? ⟨bb, offb + j, none⟩ = some (.int .i64 rj))
                    (first | (go_keep; done) | (refine ⟨?_, ?_, ?_, ?_, ?_⟩ <;> (rw [Ext.cell _ _ (by first | (simp; done) | (simp; omega) | omega)]; simp [*]; done)))
                    (first
                      | (go_at_call 38; (try rw [hwr]); (with_reducible refine Calls.mono (CW2.out _) ?_); rintro e _ ⟨s2, t2, rfl, hs2, ht2, ⟨y2, rfl⟩⟩; have y2s := y2.size; (try simp at y2s); have y2a : w.heap.size < y2.val.heap.size := (by omega); have y2_bb : bb < y2.val.heap.size := (by omega); have y2_7 : y1.val.heap.size < y2.val.heap.size := (by omega))
                      | (go_at_call 41; have G := Lib.hid (fun W hb hb2 => CSj.out W s2 t2 hb (hs2.later hb2) (ht2.later hb2)); (with_reducible refine Calls.mono (G.out _ ?_ ?_) ?_); (focus (repeat first | with_reducible exact Below.refl _ _ | with_reducible refine Below.setCell ?_ (by first | omega | (simp; done) | (simp; omega)) _ | with_reducible refine Below.alloc ?_ (by first | omega | (simp; done) | (simp; omega)) _ | with_reducible refine Below.drew ?_ | with_reducible refine Ext.on _ ?_ (by first | omega | (simp; done) | (simp; omega)))); (focus (repeat first | with_reducible exact Below.refl _ _ | with_reducible refine Below.setCell ?_ (by first | omega | (simp; done) | (simp; omega)) _ | with_reducible refine Below.alloc ?_ (by first | omega | (simp; done) | (simp; omega)) _ | with_reducible refine Below.drew ?_ | with_reducible refine Ext.on _ ?_ (by first | omega | (simp; done) | (simp; omega)))); rintro e _ ⟨s4, t4, rfl, hs4, ht4, ⟨y3, rfl⟩⟩; have y3s := y3.size; (try simp at y3s); have y3a : w.heap.size < y3.val.heap.size := (by omega); have y3_bb : bb < y3.val.heap.size := (by omega); have y3_7 : y1.val.heap.size < y3.val.heap.size := (by omega); clear G)
                      | (go_at_call 40; have G := Lib.hid (fun W hb => SGN.out W s4 t4 (hs4.later hb)); (with_reducible refine Calls.mono (G.out _ ?_) ?_); (focus (repeat first | with_reducible exact Below.refl _ _ | with_reducible refine Below.setCell ?_ (by first | omega | (simp; done) | (simp; omega)) _ | with_reducible refine Below.alloc ?_ (by first | omega | (simp; done) | (simp; omega)) _ | with_reducible refine Below.drew ?_ | with_reducible refine Ext.on _ ?_ (by first | omega | (simp; done) | (simp; omega)))); rintro e _ ⟨r, rfl, hr, ⟨y4, rfl⟩⟩; have y4s := y4.size; (try simp at y4s); have y4a : w.heap.size < y4.val.heap.size := (by omega); have y4_bb : bb < y4.val.heap.size := (by omega); clear G))
                  all_goals
                    have HB3 : Below (w.alloc (.cells #[.slice ua n uc, .slice (some ⟨b, off, none⟩) bn rc, .slice (some ⟨bb, offb, none⟩) bn bc] 30)).heap.size (w.alloc (.cells #[.slice ua n uc, .slice (some ⟨b, off, none⟩) bn rc, .slice (some ⟨bb, offb, none⟩) bn bc] 30)) y4.val := by
                      have q := HBL.out
                      repeat first | with_reducible exact q | with_reducible refine Below.drew ?_ | with_reducible refine Ext.on _ ?_ (by first | omega | (simp; omega))
                    have HB4 : Below w.heap.size w y4.val := by
                      have q := ((Below.refl w.heap.size w).alloc (Nat.le_refl _) (.cells #[.slice ua n uc, .slice (some ⟨b, off, none⟩) bn rc, .slice (some ⟨bb, offb, none⟩) bn bc] 30)).trans (HB3.mono (by simp))
                      exact q
                    cases hbb : pE j
                    · rw [hbb] at hr
                      have HN := Lib.hid (NXT.out hbb)
                      clear hbb HIT NXT
                      go_wp2_with fail
                      go_roundw
                      case rel => exact ⟨j + 1, by omega, by go_num, HN, Cls.of HB3⟩
                      case measure => simp [intOf]; omega
                    · rw [hbb] at hr
                      have HV := Lib.hid (HIT.out hbb)
                      clear hbb HIT NXT
                      go_wp2_with fail
                      go_ret
                      exact ⟨ret_bool (by rw [HV.out, HZ1.out]; simp), Cls.of HB4⟩
            · have HZ : Hid (anyB pE bn = false) := Lib.hid (by unfold anyB; rw [HE.out, show bn - j = 0 by omega]; rfl)
              clear HE
              go_wp2_with fail
              go_ret
              refine ⟨ret_bool (by rw [HZ.out, HZ1.out]; rfl), Cls.of ?_⟩
              repeat first | with_reducible exact Below.refl _ _ | with_reducible refine Below.setCell ?_ (by first | omega | (simp; done) | (simp; omega)) _ | with_reducible refine Below.alloc ?_ (by first | omega | (simp; done) | (simp; omega)) _ | with_reducible refine Below.drew ?_ | with_reducible refine Ext.on _ ?_ (by first | omega | (simp; done) | (simp; omega))
end Go.Proofs.Ythbdkhmgopahbaa
