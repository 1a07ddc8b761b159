/-
  Which systems are valid: the program's rectangular and Valid; the reference's Valid. Which systems are valid: the reference's Valid. A quotient of two digits by one, digit by digit of 32 bits: what the loops of Div64 find. Plain natural numbers.
-/
import Derived.Test.YthbdkhmgopahbaaJ08
set_option linter.unusedVariables false
namespace Go.Proofs.Ythbdkhmgopahbaa
open Go Go.RowKit Go.Deep
set_option maxHeartbeats 2000000 in
set_option maxRecDepth 20000 in
theorem rect1_calls (s u : Sl) (B : Nat) (w : World) (h : w.cell? ⟨B, 0, none⟩ = some (.slice u.a u.len u.cap)) :
    Calls Try.prog 82 #[.slice s.a s.len s.cap, .pointer (some ⟨B, 0, none⟩)] w fun e w' => e = .returned (.bool (((s.len : Nat) : Int) != ((u.len : Nat) : Int))) ∧ Cls w w' := by
  go_enter Try.func82, Try.ntmps82
  go_wp2_with fail
  go_ret
  exact ⟨rfl, Cls.of (Below.refl _ _)⟩
set_option maxHeartbeats 4000000 in
set_option maxRecDepth 20000 in
theorem rectangular_calls (y : Sy) (w : World) (h : SysA w y) :
    Calls Try.prog 54 #[y.v] w fun e w' => e = .returned (.bool (rectB y)) ∧ Cls w w' := by
  have C1 : Hid (Calls Try.prog 83 #[.slice y.R.a y.R.len y.R.cap, .func (.func 82) #[] #[.pointer (some ⟨w.heap.size, 0, none⟩)]] (w.alloc (.cells #[.slice y.U.a y.U.len y.U.cap, .slice y.R.a y.R.len y.R.cap, .slice y.B.a y.B.len y.B.cap] 30)) fun e w' => e = .returned (.bool (anyB (lenB y) y.R.len)) ∧ Cls (w.alloc (.cells #[.slice y.U.a y.U.len y.U.cap, .slice y.R.a y.R.len y.R.cap, .slice y.B.a y.B.len y.B.cap] 30)) w') := Lib.hid (by
    refine contains_row y.R.a y.R.len y.R.cap y.row y.co (lenB y) w.heap.size _ (h.R.later (by repeat first | with_reducible exact Below.refl _ _ | with_reducible refine Below.setCell ?_ (by first | omega | (simp; done) | (simp; omega)) _ | with_reducible refine Below.alloc ?_ (by first | omega | (simp; done) | (simp; omega)) _ | with_reducible refine Below.drew ?_ | with_reducible refine Ext.on _ ?_ (by first | omega | (simp; done) | (simp; omega)))) fun V hV j hj => rect1_calls (y.row j) y.U _ V ?_
    refine (hV.cell (p := ⟨w.heap.size, 0, none⟩) (by simp)).trans ?_
    rw [cell_of_row _ _ _ _ _ (0, 0) (heap_alloc_new w _)]; rfl)
  unfold rectB Sy.v
  clear h
  generalize anyB (lenB y) y.R.len = r at *
  obtain ⟨⟨ua, un, uc⟩, ⟨ra, rn, rc⟩, ⟨ba, bn, bc⟩, up, row, co, rt⟩ := y
  simp only at *
  cases hb : ((bn : Int) == (rn : Int))
  all_goals
    go_enter Try.func54, Try.ntmps54
    go_wp2_with (go_at_call 83; (with_reducible refine C1.out.mono ?_); rintro e _ ⟨rfl, ⟨x, rfl⟩⟩)
    go_ret
    refine ⟨ret_bool (by simp), Cls.of ?_⟩
    repeat first | with_reducible exact Below.refl _ _ | with_reducible refine Below.setCell ?_ (by first | omega | (simp; done) | (simp; omega)) _ | with_reducible refine Below.alloc ?_ (by first | omega | (simp; done) | (simp; omega)) _ | with_reducible refine Below.drew ?_ | with_reducible refine Ext.on _ ?_ (by first | omega | (simp; done) | (simp; omega))
set_option maxHeartbeats 4000000 in
set_option maxRecDepth 20000 in
theorem lValid_calls (y : Sy) (w : World) (h : SysA w y) :
    Calls Try.prog 24 #[y.v] w fun e w' => e = .returned (.int .i64 (vaS y)) ∧ Cls w w' := by
  have C1 := Lib.hid (fun (W : World) (hb : Below w.heap.size w W) => limited_calls y W (h.later hb))
  have C2 := Lib.hid (fun (W : World) (hb : Below w.heap.size w W) => rectangular_calls y W (h.later hb))
  unfold vaS
  clear h
  generalize limB y = l at *
  generalize rectB y = r at *
  unfold Sy.v at *
  generalize y.U.a = ua at *
  generalize y.U.len = un at *
  generalize y.U.cap = uc at *
  generalize y.R.a = ra at *
  generalize y.R.len = rn at *
  generalize y.R.cap = rc at *
  generalize y.B.a = ba at *
  generalize y.B.len = bn at *
  generalize y.B.cap = bc at *
  cases l <;> cases r
  all_goals
    go_enter Try.func24, Try.ntmps24
    go_wp2_with (first | (go_at_call 53; (with_reducible refine Calls.mono (C1.out _ ?_) ?_); (focus (repeat first | with_reducible exact Below.refl _ _ | with_reducible refine Below.setCell ?_ (by first | omega | (simp; done) | (simp; omega)) _ | with_reducible refine Below.alloc ?_ (by first | omega | (simp; done) | (simp; omega)) _ | with_reducible refine Below.drew ?_ | with_reducible refine Ext.on _ ?_ (by first | omega | (simp; done) | (simp; omega)))); rintro e _ ⟨rfl, ⟨x, rfl⟩⟩; have xs := x.size; (try simp at xs); have xa : w.heap.size < x.val.heap.size := (by omega)) | (go_at_call 54; (with_reducible refine Calls.mono (C2.out _ ?_) ?_); (focus (repeat first | with_reducible exact Below.refl _ _ | with_reducible refine Below.setCell ?_ (by first | omega | (simp; done) | (simp; omega)) _ | with_reducible refine Below.alloc ?_ (by first | omega | (simp; done) | (simp; omega)) _ | with_reducible refine Below.drew ?_ | with_reducible refine Ext.on _ ?_ (by first | omega | (simp; done) | (simp; omega)))); rintro e _ ⟨rfl, ⟨z, rfl⟩⟩))
    go_ret
    refine ⟨rfl, Cls.of ?_⟩
    repeat first | with_reducible exact Below.refl _ _ | with_reducible refine Below.setCell ?_ (by first | omega | (simp; done) | (simp; omega)) _ | with_reducible refine Below.alloc ?_ (by first | omega | (simp; done) | (simp; omega)) _ | with_reducible refine Below.drew ?_ | with_reducible refine Ext.on _ ?_ (by first | omega | (simp; done) | (simp; omega))
set_option maxHeartbeats 2000000 in
set_option maxRecDepth 20000 in
theorem rwithin_calls (n m : Int) (w : World) (h0 : 0 ≤ m) (h1 : m ≤ 1000000000) :
    Calls Try.prog 37 #[.int .i64 n, .int .i64 m] w fun e w' => e = .returned (.bool (!outB (-m) m n)) ∧ w = w' := by
  by_cases d1 : n < -m
  · have e : outB (-m) m n = true := by simp [outB, d1]
    have d2 : decide (-m ≤ n) = false := decide_eq_false (by omega)
    rw [e]
    clear e d1
    go_enter Try.func37, Try.ntmps37
    go_wp2_with fail
    go_ret
    exact ⟨rfl, rfl⟩
  · have d2 : decide (-m ≤ n) = true := decide_eq_true (by omega)
    have e : (!outB (-m) m n) = decide (n ≤ m) := by
      have d3 : decide (n < -m) = false := decide_eq_false d1
      rw [Bool.eq_iff_iff]; simp [outB, d3]
    rw [e]
    clear e d1
    go_enter Try.func37, Try.ntmps37
    go_wp2_with fail
    go_ret
    exact ⟨rfl, rfl⟩
end Go.Proofs.Ythbdkhmgopahbaa
set_option linter.unusedVariables false
namespace Go.Proofs.Ythbdkhmgopahbaa
open Go Go.RowKit Go.Deep
theorem vaS_8 {y : Sy} (h : limB y = false) : vaS y = 8 := by simp [vaS, h]
set_option maxHeartbeats 16000000 in
set_option maxRecDepth 20000 in
theorem rlValid_calls (y : Sy) (w : World) (h : SysA w y) :
    Calls Try.prog 50 #[y.v] w fun e w' => e = .returned (.int .i64 (vaS y)) ∧ Cls w w' := by
  have hU := h.U
  have hR := h.R
  have hB := h.B
  have V1 : Hid (¬ y.U.len ≤ 200 → vaS y = 8) := Lib.hid fun hh => vaS_8 (by unfold limB; rw [decide_eq_false hh]; rfl)
  have V2 : Hid (¬ y.R.len ≤ 100 → vaS y = 8) := Lib.hid fun hh => vaS_8 (by unfold limB; rw [decide_eq_false hh, Bool.false_and, Bool.and_false])
  have V3 : Hid (anyB (fun i => outB 0 1000000000 (y.up i)) y.U.len = true → vaS y = 8) := Lib.hid fun hh => vaS_8 (by unfold limB; rw [hh]; simp)
  have V4 : Hid (anyB (fun i => outB 0 1000000000 (y.up i)) y.U.len = false → y.U.len ≤ 200 → y.R.len ≤ 100 → (anyB (fun i => outB (-1000000000) 1000000000 (y.rt i)) y.B.len = true → vaS y = 8) ∧
      (anyB (fun i => outB (-1000000000) 1000000000 (y.rt i)) y.B.len = false → (anyB (rowOut y) y.R.len = true → vaS y = 8) ∧ (anyB (rowOut y) y.R.len = false →
        (¬ y.B.len = y.R.len → vaS y = 9) ∧ (y.B.len = y.R.len → anyB (lenB y) y.R.len = true → vaS y = 9) ∧ (y.B.len = y.R.len → anyB (lenB y) y.R.len = false → vaS y = 0)))) := Lib.hid fun h1 h2 h3 => by
    refine ⟨fun h4 => vaS_8 (by unfold limB; rw [h4]; simp), fun h4 => ⟨fun h5 => vaS_8 (by unfold limB; rw [h5]; simp), fun h5 => ?_⟩⟩
    have hl : limB y = true := by unfold limB; rw [h1, h4, h5, decide_eq_true h2, decide_eq_true h3]; rfl
    refine ⟨fun h6 => ?_, fun h6 h7 => ?_, fun h6 h7 => ?_⟩
    · have : rectB y = false := by unfold rectB; rw [show ((((y.B.len : Nat) : Int) == ((y.R.len : Nat) : Int))) = false by simp; omega]; rfl
      simp [vaS, hl, this]
    · have : rectB y = false := by unfold rectB; rw [h7]; simp
      simp [vaS, hl, this]
    · have : rectB y = true := by unfold rectB; rw [h7, h6]; simp
      simp [vaS, hl, this]
  have EP : Hid (∀ i, rowOut y i = anyB (fun j => outB (-1000000) 1000000 (y.co i j)) (y.row i).len) := Lib.hid fun i => rfl
  have EL : Hid (∀ i, lenB y i = ((((y.row i).len : Nat) : Int) != ((y.U.len : Nat) : Int))) := Lib.hid fun i => rfl
  obtain ⟨pU, hpU⟩ : ∃ p : Nat → Bool, (fun i => outB 0 1000000000 (y.up i)) = p := ⟨_, rfl⟩
  obtain ⟨pB, hpB⟩ : ∃ p : Nat → Bool, (fun i => outB (-1000000000) 1000000000 (y.rt i)) = p := ⟨_, rfl⟩
  have EU : Hid (∀ i, pU i = outB 0 1000000000 (y.up i)) := Lib.hid fun i => by rw [← hpU]
  have EB : Hid (∀ i, pB i = outB (-1000000000) 1000000000 (y.rt i)) := Lib.hid fun i => by rw [← hpB]
  rw [hpU] at V3 V4
  rw [hpB] at V4
  clear hpU hpB h
  generalize rowOut y = pR at *
  generalize lenB y = pL at *
  obtain ⟨va, hva⟩ : ∃ va, vaS y = va := ⟨_, rfl⟩
  rw [hva] at V1 V2 V3 V4 ⊢
  clear hva
  obtain ⟨_, um, hu⟩ := hU
  obtain ⟨_, rm, hrow, hr⟩ := hR
  obtain ⟨_, bm, hb⟩ := hB
  unfold maxLen at um rm bm
  unfold Sy.v
  have HU := Lib.hid hu
  have HR := Lib.hid hr
  have HRW := Lib.hid hrow
  have HB2 := Lib.hid hb
  clear hu hr hrow hb
  obtain ⟨⟨ua, un, uc⟩, ⟨ra, rn, rc⟩, ⟨ba, bn, bc⟩, up, row, co, rt⟩ := y
  simp only at *
  by_cases hu2 : un ≤ 200
  case neg =>
    have d1 : decide ((200 : Int) < ((un : Nat) : Int)) = true := decide_eq_true (by omega)
    have HV := Lib.hid (V1.out hu2)
    clear V1 V2 V3 V4 HU HR HB2 HRW
    go_enter Try.func50, Try.ntmps50
    go_wp2_with fail
    go_ret
    refine ⟨ret_int HV.out.symm, Cls.of ?_⟩
    repeat first | with_reducible exact Below.refl _ _ | with_reducible refine Below.setCell ?_ (by first | omega | (simp; done) | (simp; omega)) _ | with_reducible refine Below.alloc ?_ (by first | omega | (simp; done) | (simp; omega)) _ | with_reducible refine Below.drew ?_ | with_reducible refine Ext.on _ ?_ (by first | omega | (simp; done) | (simp; omega))
  case pos =>
    have d1 : decide ((200 : Int) < ((un : Nat) : Int)) = false := decide_eq_false (by omega)
    by_cases hr2 : rn ≤ 100
    case neg =>
      have d2 : decide ((100 : Int) < ((rn : Nat) : Int)) = true := decide_eq_true (by omega)
      have HV := Lib.hid (V2.out hr2)
      clear V1 V2 V3 V4 HU HR HB2 HRW
      go_enter Try.func50, Try.ntmps50
      go_wp2_with fail
      go_ret
      refine ⟨ret_int HV.out.symm, Cls.of ?_⟩
      repeat first | with_reducible exact Below.refl _ _ | with_reducible refine Below.setCell ?_ (by first | omega | (simp; done) | (simp; omega)) _ | with_reducible refine Below.alloc ?_ (by first | omega | (simp; done) | (simp; omega)) _ | with_reducible refine Below.drew ?_ | with_reducible refine Ext.on _ ?_ (by first | omega | (simp; done) | (simp; omega))
    case pos =>
      have d2 : decide ((100 : Int) < ((rn : Nat) : Int)) = false := decide_eq_false (by omega)
      have V4b := Lib.hid (fun h => V4.out h hu2 hr2)
      clear V4 V1 V2
      have V4 := Lib.hid V4b.out
      clear V4b
      go_enter Try.func50, Try.ntmps50
      go_wp2_with fail
      go_loopw [3] (fun i wr => ∃ j : Nat, j ≤ un ∧ i = .int .i64 j ∧ Hid (fstI pU 0 un = fstI pU j (un - j)) ∧ Cls (w.alloc (.cells #[.slice ua un uc, .slice ra rn rc, .slice ba bn bc] 30)) wr) (fun i _ => un - (intOf i).toNat)
      case atStart => first | exact ⟨0, Nat.zero_le _, rfl, Lib.hid rfl, Cls.of (Below.refl _ _)⟩ | exact ⟨0, Nat.zero_le _, rfl, Lib.hid rfl, x, rfl⟩
      case round =>
        obtain ⟨j, hj, rfl, HE, x, rfl⟩ := hrel
        obtain ⟨hx0, c0, c1, c2⟩ := three_s ((x.below.block w.heap.size (by simp)).trans (heap_alloc_new w _))
        have xs := x.size
        simp at xs
        by_cases hltj : j < un
        · have hS : Hid (un - j = (un - (j + 1)) + 1) := Lib.hid (by omega)
          have HIT : Hid (pU j = true → anyB pU un = true) := Lib.hid fun hp => anyB_iff.2 ⟨j, hltj, hp⟩
          have NXT : Hid (pU j = false → fstI pU 0 un = fstI pU (j + 1) (un - (j + 1))) := Lib.hid fun hp => by rw [HE.out, hS.out, fstI_go hp]
          clear HE hS
          obtain ⟨b, off, ha, hb2, hc⟩ := HU.out.resolve_left (by omega)
          subst ha
          have q0 := (x.below.cell (p := ⟨b, off + j, none⟩) (by simp; omega)).trans (((Below.refl w.heap.size w).alloc (Nat.le_refl _) _).cell (p := ⟨b, off + j, none⟩) hb2 |>.trans (hc j hltj))
          have r0 := hc j hltj
          have hbx : b < x.val.heap.size := (by omega)
          clear hc
          have EU' := EU.out j
          generalize hup : up j = uj at *
          clear hup
          cases hbb : pU j
          · have HB := Lib.hid hbb
            rw [hbb] at EU'
            obtain ⟨g1, g2⟩ := outB_no.1 EU'.symm
            have d1 : decide (uj < 0) = false := decide_eq_false (by omega)
            have d2 : decide ((1000000000 : Int) < uj) = false := decide_eq_false (by omega)
            clear hbb EU' g1 g2
            go_wp2_with fail
            go_roundw
            case rel => exact ⟨j + 1, by omega, by go_num, Lib.hid (NXT.out HB.out), x, rfl⟩
            case measure => simp [intOf]; omega
          · have HV := Lib.hid (V3.out (HIT.out hbb))
            rw [hbb] at EU'
            by_cases hz : uj < 0
            · have d1 : decide (uj < 0) = true := decide_eq_true hz
              clear hbb EU'
              go_wp2_with fail
              go_ret
              refine ⟨ret_int HV.out.symm, Cls.of ?_⟩
              repeat first | with_reducible exact Below.refl _ _ | with_reducible refine Below.setCell ?_ (by first | omega | (simp; done) | (simp; omega)) _ | with_reducible refine Below.alloc ?_ (by first | omega | (simp; done) | (simp; omega)) _ | with_reducible refine Below.drew ?_ | with_reducible refine Ext.on _ ?_ (by first | omega | (simp; done) | (simp; omega))
            · have d1 : decide (uj < 0) = false := decide_eq_false hz
              have d2 : decide ((1000000000 : Int) < uj) = true := by
                have e := EU'.symm
                unfold outB at e
                rw [d1] at e
                simpa using e
              clear hbb EU'
              go_wp2_with fail
              go_ret
              refine ⟨ret_int HV.out.symm, Cls.of ?_⟩
              repeat first | with_reducible exact Below.refl _ _ | with_reducible refine Below.setCell ?_ (by first | omega | (simp; done) | (simp; omega)) _ | with_reducible refine Below.alloc ?_ (by first | omega | (simp; done) | (simp; omega)) _ | with_reducible refine Below.drew ?_ | with_reducible refine Ext.on _ ?_ (by first | omega | (simp; done) | (simp; omega))
        · have HZ : Hid (anyB pU un = false) := Lib.hid (by unfold anyB; rw [HE.out, show un - j = 0 by omega]; rfl)
          clear HE
          have V4' := Lib.hid (V4.out HZ.out)
          clear HZ V4
          have V4 := Lib.hid V4'.out.1
          have V5 := Lib.hid V4'.out.2
          clear V4' HU EU
          go_wp2_with fail
          go_loopw [4] (fun i wr => ∃ j : Nat, j ≤ bn ∧ i = .int .i64 j ∧ Hid (fstI pB 0 bn = fstI pB j (bn - j)) ∧ Cls (w.alloc (.cells #[.slice ua un uc, .slice ra rn rc, .slice ba bn bc] 30)) wr) (fun i _ => bn - (intOf i).toNat)
          case atStart => first | exact ⟨0, Nat.zero_le _, rfl, Lib.hid rfl, Cls.of (Below.refl _ _)⟩ | exact ⟨0, Nat.zero_le _, rfl, Lib.hid rfl, x, rfl⟩
          case round =>
            obtain ⟨j, hj, rfl, HE, x, rfl⟩ := hrel
            obtain ⟨hx0, c0, c1, c2⟩ := three_s ((x.below.block w.heap.size (by simp)).trans (heap_alloc_new w _))
            have xs := x.size
            simp at xs
            by_cases hltj : j < bn
            · have hS : Hid (bn - j = (bn - (j + 1)) + 1) := Lib.hid (by omega)
              have HIT : Hid (pB j = true → anyB pB bn = true) := Lib.hid fun hp => anyB_iff.2 ⟨j, hltj, hp⟩
              have NXT : Hid (pB j = false → fstI pB 0 bn = fstI pB (j + 1) (bn - (j + 1))) := Lib.hid fun hp => by rw [HE.out, hS.out, fstI_go hp]
              clear HE hS
              obtain ⟨b, off, ha, hb2, hc⟩ := HB2.out.resolve_left (by omega)
              subst ha
              have q0 := (x.below.cell (p := ⟨b, off + j, none⟩) (by simp; omega)).trans (((Below.refl w.heap.size w).alloc (Nat.le_refl _) _).cell (p := ⟨b, off + j, none⟩) hb2 |>.trans (hc j hltj))
              have r0 := hc j hltj
              have hbx : b < x.val.heap.size := (by omega)
              clear hc
              have C1 := Lib.hid (fun W => rwithin_calls (rt j) 1000000000 W (by omega) (by omega))
              have EB' := EB.out j
              cases hbb : pB j
              all_goals
                rw [hbb] at EB'
                rw [← EB'] at C1
                generalize hrt : rt j = rj at q0 r0 C1
                clear hrt EB'
                have HB := Lib.hid hbb
                clear hbb
                go_wp2_with (go_at_call 37; ((with_reducible refine (C1.out _).mono ?_); rintro r _ ⟨rfl, rfl⟩))
              · go_roundw
                case rel => exact ⟨j + 1, by omega, by go_num, Lib.hid (NXT.out HB.out), x, rfl⟩
                case measure => simp [intOf]; omega
              · have HV := Lib.hid (V4.out (HIT.out HB.out))
                go_ret
                refine ⟨ret_int HV.out.symm, Cls.of ?_⟩
                repeat first | with_reducible exact Below.refl _ _ | with_reducible refine Below.setCell ?_ (by first | omega | (simp; done) | (simp; omega)) _ | with_reducible refine Below.alloc ?_ (by first | omega | (simp; done) | (simp; omega)) _ | with_reducible refine Below.drew ?_ | with_reducible refine Ext.on _ ?_ (by first | omega | (simp; done) | (simp; omega))
            · have HZ : Hid (anyB pB bn = false) := Lib.hid (by unfold anyB; rw [HE.out, show bn - j = 0 by omega]; rfl)
              clear HE
              have V5' := Lib.hid (V5.out HZ.out)
              clear HZ V5
              have V5 := Lib.hid V5'.out.1
              have V6 := Lib.hid V5'.out.2
              clear V5' HB2 EB
              go_wp2_with fail
              go_loopw [5] (fun i wr => ∃ j : Nat, j ≤ rn ∧ i = .int .i64 j ∧ Hid (fstI pR 0 rn = fstI pR j (rn - j)) ∧ Cls (w.alloc (.cells #[.slice ua un uc, .slice ra rn rc, .slice ba bn bc] 30)) wr) (fun i _ => rn - (intOf i).toNat)
              case atStart => first | exact ⟨0, Nat.zero_le _, rfl, Lib.hid rfl, Cls.of (Below.refl _ _)⟩ | exact ⟨0, Nat.zero_le _, rfl, Lib.hid rfl, x, rfl⟩
              case round =>
                obtain ⟨j, hj, rfl, HE, x, rfl⟩ := hrel
                obtain ⟨hx0, c0, c1, c2⟩ := three_s ((x.below.block w.heap.size (by simp)).trans (heap_alloc_new w _))
                have xs := x.size
                simp at xs
                by_cases hltj : j < rn
                · have hS : Hid (rn - j = (rn - (j + 1)) + 1) := Lib.hid (by omega)
                  have HIT : Hid (pR j = true → anyB pR rn = true) := Lib.hid fun hp => anyB_iff.2 ⟨j, hltj, hp⟩
                  have NXT : Hid (pR j = false → fstI pR 0 rn = fstI pR (j + 1) (rn - (j + 1))) := Lib.hid fun hp => by rw [HE.out, hS.out, fstI_go hp]
                  clear HE hS
                  obtain ⟨b, off, ha, hb2, hc⟩ := HR.out.resolve_left (by omega)
                  subst ha
                  have q0 := (x.below.cell (p := ⟨b, off + j, none⟩) (by simp; omega)).trans (((Below.refl w.heap.size w).alloc (Nat.le_refl _) _).cell (p := ⟨b, off + j, none⟩) hb2 |>.trans (hc j hltj))
                  have r0 := hc j hltj
                  have hbx : b < x.val.heap.size := (by omega)
                  clear hc
                  have HO := HRW.out j hltj
                  have EQ := EP.out j
                  obtain ⟨tj, htj⟩ : ∃ tj, row j = tj := ⟨_, rfl⟩
                  rw [htj] at q0 r0 HO EQ
                  clear htj
                  obtain ⟨ta, tn, tc⟩ := tj
                  simp only at q0 r0 HO EQ
                  obtain ⟨tl, tm, th⟩ := HO
                  simp only at tl tm th
                  unfold maxLen at tm
                  have TH := Lib.hid th
                  have EQH := Lib.hid EQ
                  clear th EQ
                  go_wp2_with fail
                  go_loopw [6] (fun i wr => ∃ k : Nat, k ≤ tn ∧ i = .int .i64 k ∧ Hid (fstI (fun k => outB (-1000000) 1000000 (co j k)) 0 tn = fstI (fun k => outB (-1000000) 1000000 (co j k)) k (tn - k)) ∧ wr = x.val) (fun i _ => tn - (intOf i).toNat)
                  case atStart => exact ⟨0, Nat.zero_le _, rfl, Lib.hid rfl, by trivial⟩
                  case round =>
                    obtain ⟨k, hk, rfl, HE, hwr⟩ := hrel
                    subst hwr
                    by_cases hltk : k < tn
                    · obtain ⟨b', off', ha', hb2', hc'⟩ := TH.out.resolve_left (by omega)
                      subst ha'
                      have q1 := (x.below.cell (p := ⟨b', off' + k, none⟩) (by simp; omega)).trans (((Below.refl w.heap.size w).alloc (Nat.le_refl _) _).cell (p := ⟨b', off' + k, none⟩) hb2' |>.trans (hc' k hltk))
                      have hbx' : b' < x.val.heap.size := (by omega)
                      have hS : Hid (tn - k = (tn - (k + 1)) + 1) := Lib.hid (by omega)
                      have C1 := Lib.hid (fun W => rwithin_calls (co j k) 1000000 W (by omega) (by omega))
                      clear hc'
                      cases hbb : outB (-1000000) 1000000 (co j k)
                      · have HB := Lib.hid hbb
                        rw [hbb] at C1
                        clear hbb
                        generalize hco : co j k = cjk at q1 C1
                        clear hco
                        go_wp2_with (go_at_call 37; ((with_reducible refine (C1.out _).mono ?_); rintro r _ ⟨rfl, rfl⟩))
                        go_roundw
                        case rel => exact ⟨k + 1, by omega, by go_num, Lib.hid (by rw [HE.out, hS.out]; exact fstI_go HB.out), by trivial⟩
                        case measure => simp [intOf]; omega
                      · have HV := Lib.hid (V5.out (HIT.out (by rw [EQH.out]; exact anyB_iff.2 ⟨k, hltk, hbb⟩)))
                        rw [hbb] at C1
                        clear hbb
                        generalize hco : co j k = cjk at q1 C1
                        clear hco
                        go_wp2_with (go_at_call 37; ((with_reducible refine (C1.out _).mono ?_); rintro r _ ⟨rfl, rfl⟩))
                        go_ret
                        refine ⟨ret_int HV.out.symm, Cls.of ?_⟩
                        repeat first | with_reducible exact Below.refl _ _ | with_reducible refine Below.setCell ?_ (by first | omega | (simp; done) | (simp; omega)) _ | with_reducible refine Below.alloc ?_ (by first | omega | (simp; done) | (simp; omega)) _ | with_reducible refine Below.drew ?_ | with_reducible refine Ext.on _ ?_ (by first | omega | (simp; done) | (simp; omega))
                    · have HB : Hid (pR j = false) := Lib.hid (by rw [EQH.out]; unfold anyB; rw [HE.out, show tn - k = 0 by omega]; rfl)
                      clear HE TH
                      go_wp2_with fail
                      go_roundw
                      case rel => exact ⟨j + 1, by omega, by go_num, Lib.hid (NXT.out HB.out), x, rfl⟩
                      case measure => simp [intOf]; omega
                · have HZ : Hid (anyB pR rn = false) := Lib.hid (by unfold anyB; rw [HE.out, show rn - j = 0 by omega]; rfl)
                  clear HE
                  have V6' := Lib.hid (V6.out HZ.out)
                  clear HZ V6
                  by_cases hbr : bn = rn
                  · have V7 := Lib.hid (fun h => V6'.out.2.1 hbr h)
                    have V8 := Lib.hid (fun (_ : bn = rn) h => V6'.out.2.2 hbr h)
                    have d9 : ((bn : Int) == (rn : Int)) = true := by simp; omega
                    have d9' : ((bn : Int) != (rn : Int)) = false := by simp; omega
                    clear V6'
                    go_wp2_with fail
                    go_loopw [7] (fun i wr => ∃ j : Nat, j ≤ rn ∧ i = .int .i64 j ∧ Hid (fstI pL 0 rn = fstI pL j (rn - j)) ∧ Cls (w.alloc (.cells #[.slice ua un uc, .slice ra rn rc, .slice ba bn bc] 30)) wr) (fun i _ => rn - (intOf i).toNat)
                    case atStart => first | exact ⟨0, Nat.zero_le _, rfl, Lib.hid rfl, Cls.of (Below.refl _ _)⟩ | exact ⟨0, Nat.zero_le _, rfl, Lib.hid rfl, x, rfl⟩
                    case round =>
                      obtain ⟨j, hj, rfl, HE, x, rfl⟩ := hrel
                      obtain ⟨hx0, c0, c1, c2⟩ := three_s ((x.below.block w.heap.size (by simp)).trans (heap_alloc_new w _))
                      have xs := x.size
                      simp at xs
                      by_cases hltj : j < rn
                      · have hS : Hid (rn - j = (rn - (j + 1)) + 1) := Lib.hid (by omega)
                        have HIT : Hid (pL j = true → anyB pL rn = true) := Lib.hid fun hp => anyB_iff.2 ⟨j, hltj, hp⟩
                        have NXT : Hid (pL j = false → fstI pL 0 rn = fstI pL (j + 1) (rn - (j + 1))) := Lib.hid fun hp => by rw [HE.out, hS.out, fstI_go hp]
                        clear HE hS
                        obtain ⟨b, off, ha, hb2, hc⟩ := HR.out.resolve_left (by omega)
                        subst ha
                        have q0 := (x.below.cell (p := ⟨b, off + j, none⟩) (by simp; omega)).trans (((Below.refl w.heap.size w).alloc (Nat.le_refl _) _).cell (p := ⟨b, off + j, none⟩) hb2 |>.trans (hc j hltj))
                        have r0 := hc j hltj
                        have hbx : b < x.val.heap.size := (by omega)
                        clear hc
                        cases hbb : pL j
                        · have HB := Lib.hid hbb
                          have d1 := (EL.out j).symm.trans hbb
                          clear hbb
                          generalize row j = tj at *
                          go_wp2_with fail
                          refine wp_region_on (by kernel_rfl) (by kernel_rfl) ?_
                          repeat (go_big_quiet_step (fail))
                          refine wpQuiet_nil ?_
                          rintro _ ⟨z, rfl⟩
                          go_wp2_with fail
                          go_roundw
                          case rel => exact ⟨j + 1, by omega, by go_num, Lib.hid (NXT.out HB.out), z, rfl⟩
                          case measure => simp [intOf]; omega
                        · have HV := Lib.hid (V7.out (HIT.out hbb))
                          have d1 := (EL.out j).symm.trans hbb
                          clear hbb
                          generalize row j = tj at *
                          go_wp2_with fail
                          refine wp_region_on (by kernel_rfl) (by kernel_rfl) ?_
                          repeat (go_big_quiet_step (fail))
                          refine wpQuiet_nil ?_
                          rintro _ ⟨z, rfl⟩
                          go_wp2_with fail
                          go_ret
                          refine ⟨ret_int HV.out.symm, Cls.of ?_⟩
                          repeat first | with_reducible exact Below.refl _ _ | with_reducible refine Below.setCell ?_ (by first | omega | (simp; done) | (simp; omega)) _ | with_reducible refine Below.alloc ?_ (by first | omega | (simp; done) | (simp; omega)) _ | with_reducible refine Below.drew ?_ | with_reducible refine Ext.on _ ?_ (by first | omega | (simp; done) | (simp; omega))
                      · have HZ : Hid (anyB pL rn = false) := Lib.hid (by unfold anyB; rw [HE.out, show rn - j = 0 by omega]; rfl)
                        clear HE
                        have HV := Lib.hid (V8.out hbr HZ.out)
                        clear HR
                        go_wp2_with fail
                        go_ret
                        refine ⟨ret_int HV.out.symm, Cls.of ?_⟩
                        repeat first | with_reducible exact Below.refl _ _ | with_reducible refine Below.setCell ?_ (by first | omega | (simp; done) | (simp; omega)) _ | with_reducible refine Below.alloc ?_ (by first | omega | (simp; done) | (simp; omega)) _ | with_reducible refine Below.drew ?_ | with_reducible refine Ext.on _ ?_ (by first | omega | (simp; done) | (simp; omega))
                  · have HV := Lib.hid (V6'.out.1 hbr)
                    have d9 : ((bn : Int) != (rn : Int)) = true := by simp; omega
                    clear V6'
                    go_wp2_with fail
                    go_ret
                    refine ⟨ret_int HV.out.symm, Cls.of ?_⟩
                    repeat first | with_reducible exact Below.refl _ _ | with_reducible refine Below.setCell ?_ (by first | omega | (simp; done) | (simp; omega)) _ | with_reducible refine Below.alloc ?_ (by first | omega | (simp; done) | (simp; omega)) _ | with_reducible refine Below.drew ?_ | with_reducible refine Ext.on _ ?_ (by first | omega | (simp; done) | (simp; omega))
end Go.Proofs.Ythbdkhmgopahbaa
namespace Go.Proofs.Ythbdkhmgopahbaa
/-- One digit of the quotient: u * 2^32 + d by y, where y = h * 2^32 + l is at least 2^63; q: the guess, r: its rest. -/
structure KnI (u d h l q r : Nat) : Prop where
  eq : q * h + r = u
  ge : (u * 4294967296 + d) / (h * 4294967296 + l) ≤ q
  le : q ≤ 4294967297
theorem KnI.start {u d h l : Nat} (hh : 2147483648 ≤ h) (hh2 : h < 4294967296) (hd : d < 4294967296) (hu : u < h * 4294967296 + l) (hl : l < 4294967296) : KnI u d h l (u / h) (u % h) := by
  have h0 : 0 < h := by omega
  refine ⟨by rw [Nat.mul_comm]; exact Nat.div_add_mod u h, ?_, ?_⟩
  · have hy : 0 < h * 4294967296 + l := by omega
    refine (Nat.le_div_iff_mul_le h0).2 ?_
    have h1 : (u * 4294967296 + d) / (h * 4294967296 + l) * (h * 4294967296 + l) ≤ u * 4294967296 + d := Nat.div_mul_le_self _ _
    generalize (u * 4294967296 + d) / (h * 4294967296 + l) = Q at *
    rw [Nat.mul_add] at h1
    have h2 : Q * (h * 4294967296) = Q * h * 4294967296 := by rw [Nat.mul_assoc]
    rw [h2] at h1
    generalize Q * h = a at *
    generalize Q * l = b at *
    omega
  · have h1 : u / h * h ≤ u := Nat.div_mul_le_self _ _
    rcases Nat.lt_or_ge 4294967297 (u / h) with h2 | h2
    · exfalso
      have h3 : 4294967298 * h ≤ u / h * h := Nat.mul_le_mul_right _ h2
      omega
    · exact h2
/-- The guess is too great: the next lower one. -/
theorem KnI.step {u d h l q r : Nat} (_ : 2147483648 ≤ h) (hd : d < 4294967296) (hu : u < h * 4294967296 + l) (H : KnI u d h l q r) (hc : 4294967296 ≤ q ∨ 4294967296 * r + d < q * l) : 0 < q ∧ KnI u d h l (q - 1) (r + h) := by
  obtain ⟨h1, h2, h3⟩ := H
  have hy : 0 < h * 4294967296 + l := by omega
  have hlt : (u * 4294967296 + d) / (h * 4294967296 + l) < q := by
    rcases hc with hc | hc
    · have : (u * 4294967296 + d) / (h * 4294967296 + l) < 4294967296 := by
        rw [Nat.div_lt_iff_lt_mul hy]
        omega
      omega
    · rw [Nat.div_lt_iff_lt_mul hy, Nat.mul_add, ← Nat.mul_assoc, ← h1]
      generalize q * h = a at *
      generalize q * l = b at *
      omega
  have hq : 0 < q := Nat.lt_of_le_of_lt (Nat.zero_le _) hlt
  refine ⟨hq, ?_, Nat.le_sub_one_of_lt hlt, by omega⟩
  obtain ⟨k, rfl⟩ : ∃ k, q = k + 1 := ⟨q - 1, by omega⟩
  rw [Nat.add_mul, Nat.one_mul] at h1
  simp only [Nat.add_sub_cancel]
  omega
/-- The guess is right. -/
theorem KnI.end {u d h l q r : Nat} (hh : 2147483648 ≤ h) (H : KnI u d h l q r) (hc : q * l ≤ 4294967296 * r + d) : q = (u * 4294967296 + d) / (h * 4294967296 + l) := by
  obtain ⟨h1, h2, h3⟩ := H
  have hy : 0 < h * 4294967296 + l := by omega
  refine Nat.le_antisymm ?_ h2
  refine (Nat.le_div_iff_mul_le hy).2 ?_
  rw [Nat.mul_add, ← Nat.mul_assoc, ← h1]
  generalize q * h = a at *
  generalize q * l = b at *
  omega
theorem KnI.out {u d h l q r : Nat} (hh : 2147483648 ≤ h) (hl : l < 4294967296) (H : KnI u d h l q r) (hq : q ≤ 4294967296) (hr : 4294967296 ≤ r) : q = (u * 4294967296 + d) / (h * 4294967296 + l) := by
  refine H.end hh ?_
  have h1 : q * l ≤ 4294967296 * r := Nat.mul_le_mul hq (by omega)
  exact Nat.le_trans h1 (Nat.le_add_right _ _)
theorem KnI.mul_le {u d h l q r : Nat} (hl : l < 4294967296) (H : KnI u d h l q r) : q * l ≤ 18446744073709551615 := by
  have h1 : q * l ≤ 4294967297 * 4294967295 := Nat.mul_le_mul H.le (by omega)
  simpa using h1
theorem two_digits (b u1 d1 d0 y : Nat) (hy : 0 < y) : ((u1 * b + d1) * b + d0) / y = (u1 * b + d1) / y * b + ((u1 * b + d1) % y * b + d0) / y ∧
    ((u1 * b + d1) * b + d0) % y = ((u1 * b + d1) % y * b + d0) % y := by
  have h1 := Nat.div_add_mod (u1 * b + d1) y
  generalize (u1 * b + d1) / y = q at *
  generalize (u1 * b + d1) % y = r at *
  rw [← h1]
  have e : (y * q + r) * b + d0 = y * (q * b) + (r * b + d0) := by
    rw [Nat.add_mul, Nat.mul_assoc]; omega
  rw [e, Nat.mul_add_div hy, Nat.mul_add_mod]
  exact ⟨rfl, rfl⟩
/-- Two digits make the whole quotient. -/
theorem knuth_two (u1 d1 d0 y : Nat) (hy : 0 < y) : ((u1 * 4294967296 + d1) * 4294967296 + d0) / y = (u1 * 4294967296 + d1) / y * 4294967296 + ((u1 * 4294967296 + d1) % y * 4294967296 + d0) / y ∧
    ((u1 * 4294967296 + d1) * 4294967296 + d0) % y = ((u1 * 4294967296 + d1) % y * 4294967296 + d0) % y := two_digits 4294967296 u1 d1 d0 y hy
/-- A quotient by a shifted divisor. -/
theorem shift_div (u y p : Nat) (hp : 0 < p) : u * p / (y * p) = u / y ∧ u * p % (y * p) = u % y * p := by
  constructor
  · exact Nat.mul_div_mul_right u y hp
  · exact Nat.mul_mod_mul_right p u y
end Go.Proofs.Ythbdkhmgopahbaa
