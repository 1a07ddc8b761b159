/-
  The reference's combined: the combination of a system's rows by multipliers, exactly.
-/
import Derived.Test.YthbdkhmgopahbaaJ18
import Derived.Test.YthbdkhmgopahbaaJ20
import Derived.Test.YthbdkhmgopahbaaJ09
import Derived.Test.YthbdkhmgopahbaaJ23
set_option linter.unusedVariables false
namespace Go.Proofs.Ythbdkhmgopahbaa
open Go Go.RowKit Go.Deep
/-- The error of a combination, before it is looked whether it fits. -/
def cmE0 (y : Sy) (n : Nat) (mn md : Nat → Int) : Int :=
  if vaS y ≠ 0 then vaS y else if n ≠ y.R.len then 9 else if anyB (fun i => !vaB (mn i) (md i)) n = true then 1 else 0
/-- What the reference's combination gives. -/
def RCmb (y : Sy) (n : Nat) (mn md : Nat → Int) (w : World) (e : Ending) (w' : World) : Prop :=
  ∃ (s : Sl) (g : Bool) (p q : Sl), e = .returned (.tuple #[.slice s.a s.len s.cap, .agg #[.bool g, .slice p.a p.len p.cap, .slice q.a q.len q.cap], .int .i64 (cmE0 y n mn md)]) ∧
    (cmE0 y n mn md = 0 → s.len = y.U.len ∧ BigsA w' s (fun k => totN (fun i => y.co i k) mn (fdN md) n) (totD (fdN md) n) ∧ g = decide (frI (totN y.rt mn (fdN md) n) (totD (fdN md) n) < 0) ∧ NumAt w' p (frI (totN y.rt mn (fdN md) n) (totD (fdN md) n)).natAbs ∧ NumAt w' q (frd (totN y.rt mn (fdN md) n) (totD (fdN md) n))) ∧ Cls w w'
theorem BigsA.store3 {W : World} {s : Sl} {N : Nat → Int} {D T : Nat} {x : Bool} {a a' : Option Addr} {n c n' c' : Nat} {t : TypeId} (h : BigsA W s N D) (hT : W.heap[T]? = some (.cells #[.bool x, .slice a n c, .slice a' n' c'] t)) (hne : ∀ b off, s.a = some ⟨b, off, none⟩ → b ≠ T) (v0 v1 v2 : Value) : BigsA (((W.setCell ⟨T, 0, none⟩ v0).setCell ⟨T, 1, none⟩ v1).setCell ⟨T, 2, none⟩ v2) s N D := by
  obtain ⟨h1, h2, sk, tk, h3, h4⟩ := h
  refine ⟨h1, h2, sk, tk, fun i hi => ⟨(h3 i hi).1.store3 hT v0 v1 v2, (h3 i hi).2.store3 hT v0 v1 v2⟩, h4.imp id ?_⟩
  rintro ⟨b, off, ha, hlt, hc⟩
  have hb : b ≠ T := hne b off ha
  have hk : (((W.setCell ⟨T, 0, none⟩ v0).setCell ⟨T, 1, none⟩ v1).setCell ⟨T, 2, none⟩ v2).heap[b]? = W.heap[b]? := by
    rw [heap_setCell_other _ _ _ _ hb, heap_setCell_other _ _ _ _ hb, heap_setCell_other _ _ _ _ hb]
  refine ⟨b, off, ha, by simpa using hlt, fun i hi => ?_⟩
  obtain ⟨q0, q1, q2⟩ := hc i hi
  exact ⟨(World.cell?_of_block (a := ⟨b, off + i * 3, none⟩) hk).trans q0, (World.cell?_of_block (a := ⟨b, off + i * 3 + 1, none⟩) hk).trans q1, (World.cell?_of_block (a := ⟨b, off + i * 3 + 2, none⟩) hk).trans q2⟩
theorem OutB.bigs_at {base : Nat} {N : Nat → Int} {D k : Nat} {v : Value} {W : World} (h : OutB base N D k v W) : ∃ s : Sl, v = .slice s.a s.len s.cap ∧ s.len = k ∧ BigsA W s N D ∧ ∀ b off, s.a = some ⟨b, off, none⟩ → base ≤ b := by
  obtain ⟨s, hv, hl, hb⟩ := h.bigs
  obtain ⟨L, h1, h2, h3⟩ := h
  exact ⟨s, hv, hl, hb, fun b off e => OutB.base_le h2 (by rw [hv, e]; rfl)⟩
set_option maxHeartbeats 32000000 in
set_option maxRecDepth 20000 in
theorem rcombined_calls (y : Sy) (a : Option Addr) (n c : Nat) (mn md : Nat → Int) (w : World) (h : SysA w y) (hx : FrsA w ⟨a, n, c⟩ mn md) (hi : ∀ i, i < n → In64 (mn i) ∧ In64 (md i)) (hn : n ≤ 15) :
    Calls Try.prog 29 #[y.v, .slice a n c] w (RCmb y n mn md w) := by
  have hnc := hx.1
  have hcm := hx.2.1
  have rm := h.R.2.1
  have um := h.U.2.1
  have bm := h.B.2.1
  unfold maxLen at hcm rm um bm
  simp only at hnc hcm
  have C1 := Lib.hid (fun (W : World) (hb : Below w.heap.size w W) => rlValid_calls y W (h.later hb))
  have EE : cmE0 y n mn md = (if vaS y ≠ 0 then vaS y else if n ≠ y.R.len then 9 else if anyB (fun i => !vaB (mn i) (md i)) n = true then 1 else 0) := rfl
  unfold RCmb
  by_cases h1 : vaS y = 0
  case neg =>
    rw [if_pos h1] at EE
    rw [EE]
    have d1 : (vaS y != 0) = true := by simpa using h1
    unfold Sy.v at *
    clear h hx hi EE
    generalize vaS y = va at *
    generalize y.U.a = ua at *
    generalize y.U.len = un at *
    generalize y.U.cap = uc at *
    generalize y.R.a = ra at *
    generalize y.R.len = rn at *
    generalize y.R.cap = rc at *
    generalize y.B.a = ba at *
    generalize y.B.len = bn at *
    generalize y.B.cap = bc at *
    go_enter Try.func29, Try.ntmps29
    go_wp2_with (go_at_call 50; (with_reducible refine Calls.mono (C1.out _ ?_) ?_); (focus (repeat first | with_reducible exact Below.refl _ _ | with_reducible refine Below.setCell ?_ (by first | omega | (simp; done) | (simp; omega)) _ | with_reducible refine Below.alloc ?_ (by first | omega | (simp; done) | (simp; omega)) _ | with_reducible refine Below.drew ?_ | with_reducible refine Ext.on _ ?_ (by first | omega | (simp; done) | (simp; omega)))); rintro e _ ⟨rfl, ⟨x, rfl⟩⟩; have xs := x.size; (try simp at xs); obtain ⟨hx0, c0, c1, c2⟩ := three_s ((x.below.block w.heap.size (by simp; omega)).trans (heap_two0 w _ _)); obtain ⟨hx1, zf0, zf1, zf2, z0, z1, z2⟩ := three_n ((x.below.block (w.heap.size + 1) (by simp)).trans (heap_two1 w _ _)))
    refine ret_ex rfl ⟨.tuple #[.slice none 0 0, .agg #[.bool false, .slice none 0 0, .slice none 0 0], .int .i64 va], by simp [results, Try.results29, go_sem, z0, z1, z2], ⟨⟨none, 0, 0⟩, false, ⟨none, 0, 0⟩, ⟨none, 0, 0⟩, by first | rfl | simp, ?_⟩⟩
    first | refine ⟨fun h => absurd h (h1), Cls.of ?_⟩ | refine Cls.of ?_
    repeat first | with_reducible exact Below.refl _ _ | with_reducible refine Below.setCell ?_ (by first | omega | (simp; done) | (simp; omega)) _ | with_reducible refine Below.alloc ?_ (by first | omega | (simp; done) | (simp; omega)) _ | with_reducible refine Below.drew ?_ | with_reducible refine Ext.on _ ?_ (by first | omega | (simp; done) | (simp; omega))
  case pos =>
    have V := vaS_zero h1
    rw [if_neg (by simpa using h1)] at EE
    rw [h1] at C1
    clear h1
    by_cases h2 : n = y.R.len
    case neg =>
      rw [if_pos h2] at EE
      rw [EE]
      have d2 : ((n : Int) != ((y.R.len : Nat) : Int)) = true := by simp; omega
      unfold Sy.v at *
      clear h hx hi EE V h2
      generalize y.U.a = ua at *
      generalize y.U.len = un at *
      generalize y.U.cap = uc at *
      generalize y.R.a = ra at *
      generalize y.R.len = rn at *
      generalize y.R.cap = rc at *
      generalize y.B.a = ba at *
      generalize y.B.len = bn at *
      generalize y.B.cap = bc at *
      go_enter Try.func29, Try.ntmps29
      go_wp2_with (go_at_call 50; (with_reducible refine Calls.mono (C1.out _ ?_) ?_); (focus (repeat first | with_reducible exact Below.refl _ _ | with_reducible refine Below.setCell ?_ (by first | omega | (simp; done) | (simp; omega)) _ | with_reducible refine Below.alloc ?_ (by first | omega | (simp; done) | (simp; omega)) _ | with_reducible refine Below.drew ?_ | with_reducible refine Ext.on _ ?_ (by first | omega | (simp; done) | (simp; omega)))); rintro e _ ⟨rfl, ⟨x, rfl⟩⟩; have xs := x.size; (try simp at xs); obtain ⟨hx0, c0, c1, c2⟩ := three_s ((x.below.block w.heap.size (by simp; omega)).trans (heap_two0 w _ _)); obtain ⟨hx1, zf0, zf1, zf2, z0, z1, z2⟩ := three_n ((x.below.block (w.heap.size + 1) (by simp)).trans (heap_two1 w _ _)))
      refine ret_ex rfl ⟨.tuple #[.slice none 0 0, .agg #[.bool false, .slice none 0 0, .slice none 0 0], .int .i64 9], by simp [results, Try.results29, go_sem, z0, z1, z2], ⟨⟨none, 0, 0⟩, false, ⟨none, 0, 0⟩, ⟨none, 0, 0⟩, by first | rfl | simp, ?_⟩⟩
      first | refine ⟨fun h => absurd h (by decide), Cls.of ?_⟩ | refine Cls.of ?_
      repeat first | with_reducible exact Below.refl _ _ | with_reducible refine Below.setCell ?_ (by first | omega | (simp; done) | (simp; omega)) _ | with_reducible refine Below.alloc ?_ (by first | omega | (simp; done) | (simp; omega)) _ | with_reducible refine Below.drew ?_ | with_reducible refine Ext.on _ ?_ (by first | omega | (simp; done) | (simp; omega))
    case pos =>
      have d2 : ((n : Int) != ((y.R.len : Nat) : Int)) = false := by simp; omega
      rw [if_neg (by simpa using h2)] at EE
      have E1 : Hid (anyB (fun i => !vaB (mn i) (md i)) n = true → cmE0 y n mn md = 1) := Lib.hid fun hh => by rw [EE, hh]; rfl
      have E0 : Hid (anyB (fun i => !vaB (mn i) (md i)) n = false → cmE0 y n mn md = 0) := Lib.hid fun hh => by rw [EE, hh]; rfl
      have HVA0 : Hid (anyB (fun i => !vaB (mn i) (md i)) n = false → ∀ i, i < n → vaB (mn i) (md i) = true) := Lib.hid fun hh i hi' => by
        have := anyB_no.1 hh i hi'
        cases hv : vaB (mn i) (md i) with
        | true => rfl
        | false => rw [hv] at this; cases this
      obtain ⟨pX, hpX⟩ : ∃ p : Nat → Bool, (fun i => !vaB (mn i) (md i)) = p := ⟨_, rfl⟩
      have EX : Hid (∀ i, pX i = !vaB (mn i) (md i)) := Lib.hid fun i => by rw [← hpX]
      rw [hpX] at E1 E0 HVA0
      have hbn := V.b
      have HCO : Hid (∀ k, k < y.U.len → ∀ i, i < n → (y.co i k).natAbs < 9223372036854775808) := Lib.hid fun k hk i hi' => by have := V.co i (by omega) k hk; omega
      have HRT : Hid (∀ i, i < n → -1000000000 ≤ y.rt i ∧ y.rt i ≤ 1000000000) := Lib.hid fun i hi' => V.rt i (by omega)
      have HROW : Hid (∀ i, i < n → (y.row i).len = y.U.len) := Lib.hid fun i hi' => V.row i (by omega)
      have CM : Hid (∀ k, k < n → ∀ W, Calls Try.prog 62 #[.agg #[.int .i64 (mn k), .int .i64 (md k)]] W fun e w' => ∃ s t : Sl, e = .returned (.agg #[.bool (decide (mn k < 0)), .slice s.a s.len s.cap, .slice t.a t.len t.cap]) ∧ NumAt w' s (mn k).natAbs ∧ NumAt w' t (md k).natAbs ∧ Cls W w') := Lib.hid fun k hk W => Make_calls (mn k) (md k) W (hi k hk).1 (hi k hk).2
      have CW0 : Hid (∀ W, Calls Try.prog 38 #[.int .i64 0] W fun e w' => ∃ s t : Sl, e = .returned (.agg #[.bool false, .slice s.a s.len s.cap, .slice t.a t.len t.cap]) ∧ NumAt w' s 0 ∧ NumAt w' t 1 ∧ Fr W t ∧ Cls W w') := Lib.hid fun W => rWhole_fresh 0 W (by unfold In64; omega)
      have hrow := h.R.2.2.1
      have hr := h.R.2.2.2
      have hb := h.B.2.2
      have hu := h.U.2.2
      have hxx := hx.2.2
      have hun := V.u
      unfold Sy.v at *
      have HR := Lib.hid hr
      have HRW := Lib.hid hrow
      have HB2 := Lib.hid hb
      have HX := Lib.hid hxx
      clear hu hr hrow hb hxx h hi hx V EE hpX
      generalize cmE0 y n mn md = ce at *
      obtain ⟨⟨ua, un, uc⟩, ⟨ra, rn, rc⟩, ⟨ba, bn, bc⟩, up, row, co, rt⟩ := y
      simp only at *
      subst h2
      have hbn2 := hbn.symm
      clear hbn d2
      subst hbn2
      have d2 : ((n : Int) != (n : Int)) = false := by simp
      go_enter Try.func29, Try.ntmps29
      go_wp2_with (go_at_call 50; (with_reducible refine Calls.mono (C1.out _ ?_) ?_); (focus (repeat first | with_reducible exact Below.refl _ _ | with_reducible refine Below.setCell ?_ (by first | omega | (simp; done) | (simp; omega)) _ | with_reducible refine Below.alloc ?_ (by first | omega | (simp; done) | (simp; omega)) _ | with_reducible refine Below.drew ?_ | with_reducible refine Ext.on _ ?_ (by first | omega | (simp; done) | (simp; omega)))); rintro e _ ⟨rfl, ⟨x, rfl⟩⟩; have xs := x.size; (try simp at xs); obtain ⟨hx0, c0, c1, c2⟩ := three_s ((x.below.block w.heap.size (by simp; omega)).trans (heap_two0 w _ _)); obtain ⟨hx1, zf0, zf1, zf2, z0, z1, z2⟩ := three_n ((x.below.block (w.heap.size + 1) (by simp)).trans (heap_two1 w _ _)))
      go_loopw [8] (fun i wr => ∃ j : Nat, j ≤ n ∧ i = .int .i64 j ∧ Hid (fstI pX 0 n = fstI pX j (n - j)) ∧ Cls ((w.alloc (.cells #[.slice ua un uc, .slice ra n rc, .slice ba n bc] 30)).alloc (.cells #[.bool false, .slice none 0 0, .slice none 0 0] 67)) wr) (fun i _ => n - (intOf i).toNat)
      case atStart => exact ⟨0, Nat.zero_le _, rfl, Lib.hid rfl, x, rfl⟩
      case round =>
        obtain ⟨j, hj, rfl, HE, x, rfl⟩ := hrel
        have xs := x.size
        simp at xs
        obtain ⟨hx0, c0, c1, c2⟩ := three_s ((x.below.block w.heap.size (by simp; omega)).trans (heap_two0 w _ _)); obtain ⟨hx1, zf0, zf1, zf2, z0, z1, z2⟩ := three_n ((x.below.block (w.heap.size + 1) (by simp)).trans (heap_two1 w _ _))
        by_cases hltj : j < n
        · have hS : Hid (n - j = (n - (j + 1)) + 1) := Lib.hid (by omega)
          have HIT : Hid (pX j = true → anyB pX n = true) := Lib.hid fun hp => anyB_iff.2 ⟨j, hltj, hp⟩
          have NXT : Hid (pX j = false → fstI pX 0 n = fstI pX (j + 1) (n - (j + 1))) := Lib.hid fun hp => by rw [HE.out, hS.out, fstI_go hp]
          clear HE hS
          obtain ⟨b, off, ha, hb2, hc⟩ := HX.out.resolve_left (by omega)
          subst ha
          obtain ⟨r0, r1⟩ := hc j hltj
          have q0 := (x.below.cell (p := ⟨b, off + j * 2, none⟩) (by simp; omega)).trans ((((Below.refl w.heap.size w).alloc (Nat.le_refl _) _).alloc (by simp) _).cell (p := ⟨b, off + j * 2, none⟩) hb2 |>.trans r0)
          have q1 := (x.below.cell (p := ⟨b, off + j * 2 + 1, none⟩) (by simp; omega)).trans ((((Below.refl w.heap.size w).alloc (Nat.le_refl _) _).alloc (by simp) _).cell (p := ⟨b, off + j * 2 + 1, none⟩) hb2 |>.trans r1)
          have hbx : b < x.val.heap.size := (by omega)
          have CVj := Lib.hid (fun W => rValid_calls (mn j) (md j) W)
          have EXj := Lib.hid (EX.out j)
          clear hc r0 r1
          generalize vaB (mn j) (md j) = vj at *
          generalize mn j = fj at *
          generalize md j = gj at *
          cases vj
          · have HV := Lib.hid (E1.out (HIT.out (by rw [EXj.out]; rfl)))
            clear HIT NXT
            go_wp2_with (go_at_call 61; (with_reducible refine Calls.mono (CVj.out _) ?_); rintro e _ ⟨rfl, hcy⟩; obtain ⟨x, rfl⟩ := Cls.step x hcy; have xs := x.size; (try simp at xs); obtain ⟨hx0, c0, c1, c2⟩ := three_s ((x.below.block w.heap.size (by simp; omega)).trans (heap_two0 w _ _)); obtain ⟨hx1, zf0, zf1, zf2, z0, z1, z2⟩ := three_n ((x.below.block (w.heap.size + 1) (by simp)).trans (heap_two1 w _ _)))
            refine ret_ex rfl ⟨.tuple #[.slice none 0 0, .agg #[.bool false, .slice none 0 0, .slice none 0 0], .int .i64 1], by simp [results, Try.results29, go_sem, z0, z1, z2], ⟨⟨none, 0, 0⟩, false, ⟨none, 0, 0⟩, ⟨none, 0, 0⟩, by rw [HV.out], fun h => absurd h (by rw [HV.out]; decide), Cls.of ?_⟩⟩
            repeat first | with_reducible exact Below.refl _ _ | with_reducible refine Below.setCell ?_ (by first | omega | (simp; done) | (simp; omega)) _ | with_reducible refine Below.alloc ?_ (by first | omega | (simp; done) | (simp; omega)) _ | with_reducible refine Below.drew ?_ | with_reducible refine Ext.on _ ?_ (by first | omega | (simp; done) | (simp; omega))
          · have HN := Lib.hid (NXT.out (by rw [EXj.out]; rfl))
            clear HIT NXT
            go_wp2_with (go_at_call 61; (with_reducible refine Calls.mono (CVj.out _) ?_); rintro e _ ⟨rfl, hcy⟩; obtain ⟨x, rfl⟩ := Cls.step x hcy; have xs := x.size; (try simp at xs); obtain ⟨hx0, c0, c1, c2⟩ := three_s ((x.below.block w.heap.size (by simp; omega)).trans (heap_two0 w _ _)); obtain ⟨hx1, zf0, zf1, zf2, z0, z1, z2⟩ := three_n ((x.below.block (w.heap.size + 1) (by simp)).trans (heap_two1 w _ _)))
            go_roundw
            case rel => exact ⟨j + 1, by omega, by go_num, HN, x, rfl⟩
            case measure => simp [intOf]; omega
        · have HZ : Hid (anyB pX n = false) := Lib.hid (by unfold anyB; rw [HE.out, show n - j = 0 by omega]; rfl)
          clear HE
          have HV := Lib.hid (E0.out HZ.out)
          have HVA := Lib.hid (HVA0.out HZ.out)
          have HDp : Hid (∀ k, k ≤ n → 0 < totD (fdN md) k) := Lib.hid fun k hk => totD_pos k fun i hi => by
            have := (vaB_rng (HVA.out i (by omega))).1
            show 0 < (md i).natAbs
            omega
          have HBd : Hid (∀ c, c < un → ∀ k, k ≤ n → (totN (fun i => co i c) mn (fdN md) k).natAbs < wp 33 ∧ totD (fdN md) k < wp 33) := Lib.hid fun c hc k hk => by
            refine ⟨wp_mono (totN_lt k fun m hm => ?_) (by omega), wp_mono (totD_lt k fun m hm => ?_) (by omega)⟩
            · obtain ⟨b1, b2, b3, b4⟩ := vaB_rng (HVA.out m (by omega))
              have := HCO.out c hc m (by omega)
              show (md m).natAbs < _ ∧ _ ∧ _
              omega
            · obtain ⟨b1, b2, b3, b4⟩ := vaB_rng (HVA.out m (by omega))
              show (md m).natAbs < _
              omega
          clear E1 E0 HVA0 EX HZ
          go_wp2_with fail
          go_loopw [9, 10] (fun v i wr => ∃ kk : Nat, kk ≤ un ∧ i = .int .i64 kk ∧ Hid (OutB (w.heap.size + 1 + 1) (fun c => totN (fun i => co i c) mn (fdN md) n) (totD (fdN md) n) kk v wr) ∧ Cls ((w.alloc (.cells #[.slice ua un uc, .slice ra n rc, .slice ba n bc] 30)).alloc (.cells #[.bool false, .slice none 0 0, .slice none 0 0] 67)) wr) (fun _ i _ => un - (intOf i).toNat)
          case atStart => exact ⟨0, Nat.zero_le _, rfl, Lib.hid (OutB.nil _ _ _ _), x, rfl⟩
          case round =>
            obtain ⟨kk, hkk, rfl, HO, x, rfl⟩ := hrel
            have xs := x.size
            simp at xs
            obtain ⟨hx0, c0, c1, c2⟩ := three_s ((x.below.block w.heap.size (by simp; omega)).trans (heap_two0 w _ _)); obtain ⟨hx1, zf0, zf1, zf2, z0, z1, z2⟩ := three_n ((x.below.block (w.heap.size + 1) (by simp)).trans (heap_two1 w _ _))
            by_cases hk2 : kk < un
            · have H0 : Hid (∀ (y1 : Ext x.val) (s t : Sl), NumAt y1.val s 0 → NumAt y1.val t 1 → Fr x.val t → RTotF x.val y1.val.heap.size (totN (fun i => co i kk) mn (fdN md) 0) (totD (fdN md) 0) (y1.val.alloc (.cells #[.bool false, .slice s.a s.len s.cap, .slice t.a t.len t.cap] 67))) := Lib.hid (fun y1 s t hs ht hf => by
                refine ⟨s, t, ?_, ?_, ?_, FrL.zero hs, FrL.of hf (Nat.le_refl _), y1.size, ?_⟩
                · show _ = some (Obj.cells #[.bool (decide (frI 0 1 < 0)), _, _] _)
                  rw [fr_base.1]; exact heap_alloc_new y1.val _
                · show NumAt _ _ (frI 0 1).natAbs
                  rw [fr_base.1]; exact hs.later ((Below.refl _ _).alloc (Nat.le_refl _) _)
                · show NumAt _ _ (frd 0 1)
                  rw [fr_base.2]; exact ht.later ((Below.refl _ _).alloc (Nat.le_refl _) _)
                · exact y1.below.alloc y1.size _)
              go_wp2_with (go_at_call 38; (with_reducible refine Calls.mono (CW0.out _) ?_); rintro e _ ⟨s, t, rfl, hs, ht, hft, ⟨y1, rfl⟩⟩; have y1s := y1.size; have HB0 := Lib.hid (H0.out y1 s t hs ht hft); clear hs ht hft H0)
              go_loopw [12] (fun i wr => ∃ k : Nat, k ≤ n ∧ i = .int .i64 k ∧ Hid (RTotF x.val y1.val.heap.size (totN (fun i => co i kk) mn (fdN md) k) (totD (fdN md) k) wr)) (fun i _ => n - (intOf i).toNat)
              case atStart => exact ⟨0, Nat.zero_le _, rfl, HB0⟩
              case round =>
                obtain ⟨k, hk, rfl, hT⟩ := hrel
                obtain ⟨s, t, hT7, hs7, ht7, hf7, hf8, hb7, hBL⟩ := hT.out
                have hBs := hBL.size
                obtain ⟨hb7l, _, _, _, e0, e1, e2⟩ := three_n hT7
                obtain ⟨hx0, c0, c1, c2⟩ := three_s ((hBL.block w.heap.size (by omega)).trans ((x.below.block w.heap.size (by simp; omega)).trans (heap_two0 w _ _)))
                have HT7 := Lib.hid hT7
                have HBL := Lib.hid hBL
                have HS7 := Lib.hid hs7
                have HT7' := Lib.hid ht7
                have HW : ∀ (b o : Nat), b < w.heap.size → wr.cell? ⟨b, o, none⟩ = w.cell? ⟨b, o, none⟩ := fun b o hb => (HBL.out.cell (p := ⟨b, o, none⟩) (by show b < _; omega)).trans ((x.below.cell (p := ⟨b, o, none⟩) (by show b < _; simp; omega)).trans ((((Below.refl w.heap.size w).alloc (Nat.le_refl _) _).alloc (by simp) _).cell (p := ⟨b, o, none⟩) hb))
                have HWc := Lib.hid HW
                have HF7 := Lib.hid hf7
                have HF8 := Lib.hid hf8
                clear hT7 hs7 ht7 hBL HW hf7 hf8
                by_cases hltk : k < n
                · obtain ⟨b9, off9, ha9, hb9, hc9⟩ := HX.out.resolve_left (by show ¬ n = 0; omega)
                  obtain ⟨b8, off8, ha8, hb8, hc8⟩ := HR.out.resolve_left (by omega)
                  subst ha9 ha8
                  obtain ⟨p0, p1⟩ := hc9 k hltk
                  have p2 := hc8 k hltk
                  obtain ⟨rj1, rj2, rj3⟩ := HRW.out k hltk
                  have hrl := HROW.out k hltk
                  unfold maxLen at rj2
                  have u0 := (HWc.out b9 (off9 + k * 2) hb9).trans p0
                  have u1 := (HWc.out b9 (off9 + k * 2 + 1) hb9).trans p1
                  have u2 := (HWc.out b8 (off8 + k) hb8).trans p2
                  obtain ⟨b7, off7, ha7, hb7x, hc7⟩ := rj3.resolve_left (by omega)
                  have u3 := (HWc.out b7 (off7 + kk) hb7x).trans (hc7 kk (by omega))
                  rw [ha7] at u2
                  have hbl9 : b9 < wr.heap.size := by omega
                  have hbl8 : b8 < wr.heap.size := by omega
                  have hbl7 : b7 < wr.heap.size := by omega
                  have hvk := HVA.out k hltk
                  have hfp : 0 < fdN md k := by
                    have := (vaB_rng hvk).1
                    show 0 < (md k).natAbs
                    omega
                  have hck := HCO.out kk hk2 k hltk
                  have hBk := HBd.out kk hk2 k hk
                  rw [hrl] at u2 rj1
                  generalize (row k).cap = rcp at *
                  clear hc9 hc8 p0 p1 p2 C1 HRW HROW HRT hrl hc7 ha7 HB2 HWc HB0
                  by_cases hf0 : mn k = 0
                  · have d1 : ((mn k) != 0) = false := by simp [hf0]
                    have d1' : ((mn k) == 0) = true := by simp [hf0]
                    have HSK := Lib.hid (rskip (totN (fun i => co i kk) mn (fdN md) k) (totD (fdN md) k) (mn k) (co k kk) (fdN md k) (HDp.out k hk) hfp (by left; exact hf0))
                    clear hf0 HT7 HS7 HT7' HDp HBd
                    go_wp2_with fail
                    go_roundw
                    case rel => exact ⟨k + 1, by omega, by go_num, Lib.hid (RTotF.scale HSK.out.1 HSK.out.2 hT.out)⟩
                    case measure => simp [intOf]; omega
                  · have d1 : ((mn k) != 0) = true := by simpa using hf0
                    have d1' : ((mn k) == 0) = false := by simpa using hf0
                    by_cases hg0 : co k kk = 0
                    · have d2 : ((co k kk) != 0) = false := by simp [hg0]
                      have d2' : ((co k kk) == 0) = true := by simp [hg0]
                      have HSK := Lib.hid (rskip (totN (fun i => co i kk) mn (fdN md) k) (totD (fdN md) k) (mn k) (co k kk) (fdN md k) (HDp.out k hk) hfp (by right; exact hg0))
                      clear hg0 HT7 HS7 HT7' HDp HBd
                      go_wp2_with fail
                      go_roundw
                      case rel => exact ⟨k + 1, by omega, by go_num, Lib.hid (RTotF.scale HSK.out.1 HSK.out.2 hT.out)⟩
                      case measure => simp [intOf]; omega
                    · have d2 : ((co k kk) != 0) = true := by simpa using hg0
                      have d2' : ((co k kk) == 0) = false := by simpa using hg0
                      have CMk := Lib.hid (CM.out k hltk)
                      have CWk := Lib.hid (fun W => rWhole_calls (co k kk) W (by unfold In64; omega))
                      have CTk : Hid (∀ (W : World) (s2 t2 s3 t3 : Sl), NumAt W s2 (mn k).natAbs → NumAt W t2 (md k).natAbs → NumAt W s3 (co k kk).natAbs → NumAt W t3 1 → Calls Try.prog 39 #[.agg #[.bool (decide (mn k < 0)), .slice s2.a s2.len s2.cap, .slice t2.a t2.len t2.cap], .agg #[.bool (decide (co k kk < 0)), .slice s3.a s3.len s3.cap, .slice t3.a t3.len t3.cap]] W (RB (decide (frI (mn k * co k kk) ((md k).natAbs * 1) < 0)) (frI (mn k * co k kk) ((md k).natAbs * 1)).natAbs (frd (mn k * co k kk) ((md k).natAbs * 1)) W)) := Lib.hid fun W s2 t2 s3 t3 h1 h2 h3 h4 => rterm_calls (mn k) (co k kk) (md k) hvk hck W s2 t2 s3 t3 h1 h2 h3 h4
                      have CPk : Hid (∀ (W : World) (s4 t4 : Sl), Below wr.heap.size wr W → NumAt W s4 (frI (mn k * co k kk) ((md k).natAbs * 1)).natAbs → NumAt W t4 (frd (mn k * co k kk) ((md k).natAbs * 1)) → Calls Try.prog 41 #[.agg #[.bool (decide (frI (totN (fun i => co i kk) mn (fdN md) k) (totD (fdN md) k) < 0)), .slice s.a s.len s.cap, .slice t.a t.len t.cap], .agg #[.bool (decide (frI (mn k * co k kk) ((md k).natAbs * 1) < 0)), .slice s4.a s4.len s4.cap, .slice t4.a t4.len t4.cap]] W (RBigF W (totN (fun i => co i kk) mn (fdN md) (k + 1)) (totD (fdN md) (k + 1)))) := Lib.hid fun W s4 t4 hb h3 h4 => radd_fresh _ _ (mn k) (co k kk) (md k) (HDp.out k hk) hBk.1 hBk.2 hvk hck W s t s4 t4 (HS7.out.later hb) (HT7'.out.later hb) h3 h4
                      generalize hN1 : totN (fun i => co i kk) mn (fdN md) (k + 1) = N1 at *
                      generalize hD1 : totD (fdN md) (k + 1) = D1 at *
                      have HN1 := Lib.hid hN1
                      have HD1 := Lib.hid hD1
                      clear hN1 hD1 hf0 hg0 hT CM HCO CW0 HX HVA HDp HBd hBk hck hvk hfp HR HS7 HT7' HO
                      generalize decide (frI (totN (fun i => co i kk) mn (fdN md) k) (totD (fdN md) k) < 0) = g7 at *
                      generalize frd (mn k * co k kk) ((md k).natAbs * 1) = v3 at *
                      generalize frI (mn k * co k kk) ((md k).natAbs * 1) = v2 at *
                      generalize decide (v2 < 0) = g4 at *
                      generalize decide (mn k < 0) = g1 at *
                      generalize decide (co k kk < 0) = g2 at *
                      generalize mn k = fk at *
                      generalize md k = gk at *
                      generalize co k kk = ck at *
                      go_wp2_with fail
                      refine wp_region_lin (by kernel_rfl) (by kernel_rfl) ?_
                      intro y0
                      have y0s := y0.size
                      repeat (refine lin_calm rfl ?_; intro KK hKK; go_big_quiet_step (fail); refine wpQuiet_nil ?_; refine hKK _ ?_; clear hKK KK)
                      refine lin_free rfl ?_
                      intro KK hKK
                      go_wp2_with (go_at_call 62; (with_reducible refine Calls.mono (CMk.out _) ?_); rintro e _ ⟨s2, t2, rfl, hs2, ht2, hcz⟩; obtain ⟨z1, rfl⟩ := Cls.step y0 hcz; have z1s := z1.size; have HZ2 := Lib.hid hs2; have HZ3 := Lib.hid ht2; clear hs2 ht2)
                      refine hKK _ _ (.inr ⟨z1, rfl⟩) ?_
                      clear hKK KK
                      repeat (refine lin_calm rfl ?_; intro KK hKK; go_big_quiet_step (fail); refine wpQuiet_nil ?_; refine hKK _ ?_; clear hKK KK)
                      refine lin_free rfl ?_
                      intro KK hKK
                      go_wp2_with (go_at_call 38; (with_reducible refine Calls.mono (CWk.out _) ?_); rintro e _ ⟨s3, t3, rfl, hs3, ht3, hcz2⟩; have HY2 := Lib.hid (HZ2.out.later hcz2.below); have HY3 := Lib.hid (HZ3.out.later hcz2.below); obtain ⟨z2, rfl⟩ := Cls.step z1 hcz2; have z2s := z2.size; have HY4 := Lib.hid hs3; have HY5 := Lib.hid ht3; clear hs3 ht3)
                      refine hKK _ _ (.inr ⟨z2, rfl⟩) ?_
                      clear hKK KK
                      repeat (refine lin_calm rfl ?_; intro KK hKK; go_big_quiet_step (fail); refine wpQuiet_nil ?_; refine hKK _ ?_; clear hKK KK)
                      refine lin_free rfl ?_
                      intro KK hKK
                      go_wp2_with (go_at_call 39; (with_reducible refine Calls.mono (CTk.out _ s2 t2 s3 t3 HY2.out HY3.out HY4.out HY5.out) ?_); rintro e _ ⟨s4, t4, rfl, hs4, ht4, hcz3⟩; obtain ⟨z3, rfl⟩ := Cls.step z2 hcz3; have z3s := z3.size; have HX4 := Lib.hid hs4; have HX5 := Lib.hid ht4; clear hs4 ht4)
                      refine hKK _ _ (.inr ⟨z3, rfl⟩) ?_
                      clear hKK KK
                      repeat (refine lin_calm rfl ?_; intro KK hKK; go_big_quiet_step (fail); refine wpQuiet_nil ?_; refine hKK _ ?_; clear hKK KK)
                      refine lin_free rfl ?_
                      intro KK hKK
                      go_wp2_with (go_at_call 41; (with_reducible refine Calls.mono (CPk.out z3.val s4 t4 z3.below HX4.out HX5.out) ?_); rintro e _ ⟨s5, t5, rfl, hs5, ht5, hf5, hf6, hcz4⟩; obtain ⟨z4, rfl⟩ := Cls.step z3 hcz4; have z4s := z4.size; have HT4 := Lib.hid ((z4.below.block y1.val.heap.size hb7l).trans HT7.out); obtain ⟨m0, m1, m2, m3, m4, m5, m6⟩ := three_n HT4.out)
                      refine hKK _ _ (.inr ⟨z4, rfl⟩) ?_
                      clear hKK KK
                      repeat (refine lin_calm rfl ?_; intro KK hKK; go_big_quiet_step (fail); refine wpQuiet_nil ?_; refine hKK _ ?_; clear hKK KK)
                      refine lin_free rfl ?_
                      intro KK hKK
                      go_wp2_with fail
                      refine hKK _ _ (by first | exact .inl rfl | exact .inl trivial) ?_
                      clear hKK KK
                      refine lin_nil ?_
                      have HF := Lib.hid (RTotF.mk' (N := N1) (D := D1) HT4.out hb7 hs5 ht5 (FrL.of hf5 (by omega)) (FrL.of hf6 (by omega)) (z4.on HBL.out (by simpa using hBs)))
                      go_wp2_with fail
                      go_roundw
                      case rel => exact ⟨k + 1, by omega, by go_num, Lib.hid (by rw [HN1.out, HD1.out]; exact HF.out)⟩
                      case measure => simp [intOf]; omega
                · have hkn : n = k := by omega
                  subst hkn
                  have hOld := HO.out.old
                  have HOFF := Lib.hid (And.intro (HF7.out.off hOld) (HF8.out.off hOld))
                  obtain ⟨L, q1, q2, q3⟩ := (HO.out.later HBL.out).later ((Below.refl wr.heap.size wr).alloc (Nat.le_refl _) (.cells #[.bool (decide (frI (totN (fun i => co i kk) mn (fdN md) n) (totD (fdN md) n) < 0)), .slice s.a s.len s.cap, .slice t.a t.len t.cap] 67))
                  have Q1 := Lib.hid q1
                  have Q2 := Lib.hid q2
                  have Q3 := Lib.hid q3
                  have HS8 := Lib.hid (HS7.out.later ((Below.refl wr.heap.size wr).alloc (Nat.le_refl _) (.cells #[.bool (decide (frI (totN (fun i => co i kk) mn (fdN md) n) (totD (fdN md) n) < 0)), .slice s.a s.len s.cap, .slice t.a t.len t.cap] 67)))
                  have HT8 := Lib.hid (HT7'.out.later ((Below.refl wr.heap.size wr).alloc (Nat.le_refl _) (.cells #[.bool (decide (frI (totN (fun i => co i kk) mn (fdN md) n) (totD (fdN md) n) < 0)), .slice s.a s.len s.cap, .slice t.a t.len t.cap] 67)))
                  obtain ⟨i0, hi, hz0, hz1, hz2⟩ := info_parts infoBig
                  have HB2w : Hid (Below (w.heap.size + 1 + 1) ((w.alloc (.cells #[.slice ua un uc, .slice ra n rc, .slice ba n bc] 30)).alloc (.cells #[.bool false, .slice none 0 0, .slice none 0 0] 67)) wr) := Lib.hid (by
                    have h1 : Below (w.heap.size + 1 + 1) ((w.alloc (.cells #[.slice ua un uc, .slice ra n rc, .slice ba n bc] 30)).alloc (.cells #[.bool false, .slice none 0 0, .slice none 0 0] 67)) x.val := by simpa using x.below
                    exact h1.trans (HBL.out.mono (by omega)))
                  clear q1 q2 q3 hT HT7 HS7 HT7' HBL HWc HB0 hOld HF7 HF8
                  go_wp2_with (at_builtin; go_loud (refine wpList_append_own_at _ rfl _ _ 64 rfl (w.heap.size + 1 + 1) 67 i0 (.agg #[.bool false, .slice none 0 0, .slice none 0 0]) 3 56 Try.underlying64 hi hz0 hz1 hz2 rfl (by decide) _ kk _ rfl Q2.out ⟨wr.heap.size, 0, none⟩ 1 1 [.bool _, .slice _ _ _, .slice _ _ _] rfl rfl (cells_new' _ _ _) (one_b _ _ _ _ _ _ _) (by unfold maxLen; omega) (by omega) (by first | (simp; done) | (simp; omega)) ?_; intro v1 w1 hown1 hg1 _ hv1; have HB3 : Hid (Below (w.heap.size + 1 + 1) ((w.alloc (.cells #[.slice ua un uc, .slice ra n rc, .slice ba n bc] 30)).alloc (.cells #[.bool false, .slice none 0 0, .slice none 0 0] 67)) w1) := Lib.hid (Below.grown (w := wr.alloc _) (HB2w.out.alloc (by omega) _) hg1 (by first | (simp; done) | (simp; omega)) (fun k hk => OutB.base_le Q2.out hk)); have HO3 := Lib.hid (OutB.next Q1.out Q3.out hown1 hg1 hv1 rfl HS8.out HT8.out HOFF.out.1 HOFF.out.2); clear hown1 hg1 hv1))
                  go_roundw
                  case rel => exact ⟨kk + 1, by omega, by go_num, HO3, Cls.of (by simpa using HB3.out)⟩
                  case measure => simp [intOf]; omega
            · obtain rfl : kk = un := by omega
              have HBr : Hid (∀ k, k ≤ n → (totN rt mn (fdN md) k).natAbs < wp 33 ∧ totD (fdN md) k < wp 33) := Lib.hid fun k hk => by
                refine ⟨wp_mono (totN_lt k fun m hm => ?_) (by omega), wp_mono (totD_lt k fun m hm => ?_) (by omega)⟩
                · obtain ⟨b1, b2, b3, b4⟩ := vaB_rng (HVA.out m (by omega))
                  have := HRT.out m (by omega)
                  show (md m).natAbs < _ ∧ _ ∧ _
                  omega
                · obtain ⟨b1, b2, b3, b4⟩ := vaB_rng (HVA.out m (by omega))
                  show (md m).natAbs < _
                  omega
              obtain ⟨so, hvv, hlo, hBA, hBo⟩ := HO.out.bigs_at
              subst hvv
              have HBA := Lib.hid hBA
              clear hBA HO
              have H0 : Hid (∀ (y1 : Ext x.val) (s t : Sl), NumAt y1.val s 0 → NumAt y1.val t 1 → RTotAt x.val y1.val.heap.size (totN rt mn (fdN md) 0) (totD (fdN md) 0) (y1.val.alloc (.cells #[.bool false, .slice s.a s.len s.cap, .slice t.a t.len t.cap] 67))) := Lib.hid (fun y1 s t hs ht => by
                refine ⟨s, t, ?_, ?_, ?_, y1.size, ?_⟩
                · show _ = some (Obj.cells #[.bool (decide (frI 0 1 < 0)), _, _] _)
                  rw [fr_base.1]; exact heap_alloc_new y1.val _
                · show NumAt _ _ (frI 0 1).natAbs
                  rw [fr_base.1]; exact hs.later ((Below.refl _ _).alloc (Nat.le_refl _) _)
                · show NumAt _ _ (frd 0 1)
                  rw [fr_base.2]; exact ht.later ((Below.refl _ _).alloc (Nat.le_refl _) _)
                · exact y1.below.alloc y1.size _)
              clear HBd HCO HROW HRW HR C1
              go_wp2_with (go_at_call 38; (with_reducible refine Calls.mono (CW0.out _) ?_); rintro e _ ⟨s, t, rfl, hs, ht, hft, ⟨y1, rfl⟩⟩; have y1s := y1.size; have HB0 := Lib.hid (H0.out y1 s t hs ht); clear hs ht hft H0)
              go_loopw [14] (fun i wr => ∃ k : Nat, k ≤ n ∧ i = .int .i64 k ∧ Hid (RTotAt x.val y1.val.heap.size (totN rt mn (fdN md) k) (totD (fdN md) k) wr)) (fun i _ => n - (intOf i).toNat)
              case atStart => exact ⟨0, Nat.zero_le _, rfl, HB0⟩
              case round =>
                obtain ⟨k, hk, rfl, hT⟩ := hrel
                obtain ⟨s, t, hT7, hs7, ht7, hb7, hBL⟩ := hT.out
                have hBs := hBL.size
                obtain ⟨hb7l, _, _, _, e0, e1, e2⟩ := three_n hT7
                obtain ⟨hx0, c0, c1, c2⟩ := three_s ((hBL.block w.heap.size (by omega)).trans ((x.below.block w.heap.size (by simp; omega)).trans (heap_two0 w _ _)))
                have HX1 := Lib.hid ((hBL.block (w.heap.size + 1) (by omega)).trans ((x.below.block (w.heap.size + 1) (by simp)).trans (heap_two1 w _ _)))
                have HT7 := Lib.hid hT7
                have HBL := Lib.hid hBL
                have HS7 := Lib.hid hs7
                have HT7' := Lib.hid ht7
                have HW : ∀ (b o : Nat), b < w.heap.size → wr.cell? ⟨b, o, none⟩ = w.cell? ⟨b, o, none⟩ := fun b o hb => (HBL.out.cell (p := ⟨b, o, none⟩) (by show b < _; omega)).trans ((x.below.cell (p := ⟨b, o, none⟩) (by show b < _; simp; omega)).trans ((((Below.refl w.heap.size w).alloc (Nat.le_refl _) _).alloc (by simp) _).cell (p := ⟨b, o, none⟩) hb))
                have HWc := Lib.hid HW
                clear hT7 hs7 ht7 hBL HW
                by_cases hltk : k < n
                · obtain ⟨b9, off9, ha9, hb9, hc9⟩ := HX.out.resolve_left (by show ¬ n = 0; omega)
                  obtain ⟨b8, off8, ha8, hb8, hc8⟩ := HB2.out.resolve_left (by omega)
                  subst ha9 ha8
                  obtain ⟨p0, p1⟩ := hc9 k hltk
                  have p2 := hc8 k hltk
                  have u0 := (HWc.out b9 (off9 + k * 2) hb9).trans p0
                  have u1 := (HWc.out b9 (off9 + k * 2 + 1) hb9).trans p1
                  have u2 := (HWc.out b8 (off8 + k) hb8).trans p2
                  have hbl9 : b9 < wr.heap.size := by omega
                  have hbl8 : b8 < wr.heap.size := by omega
                  have hvk := HVA.out k hltk
                  have hfp : 0 < fdN md k := by
                    have := (vaB_rng hvk).1
                    show 0 < (md k).natAbs
                    omega
                  have hck := HRT.out k hltk
                  have hck2 : (rt k).natAbs < 9223372036854775808 := by omega
                  have hBk := HBr.out k hk
                  clear hc9 hc8 p0 p1 p2 HWc HB0 HX1
                  have CMk := Lib.hid (CM.out k hltk)
                  have CWk := Lib.hid (fun W => rWhole_calls (rt k) W (by unfold In64; omega))
                  have CTk : Hid (∀ (W : World) (s2 t2 s3 t3 : Sl), NumAt W s2 (mn k).natAbs → NumAt W t2 (md k).natAbs → NumAt W s3 (rt k).natAbs → NumAt W t3 1 → Calls Try.prog 39 #[.agg #[.bool (decide (mn k < 0)), .slice s2.a s2.len s2.cap, .slice t2.a t2.len t2.cap], .agg #[.bool (decide (rt k < 0)), .slice s3.a s3.len s3.cap, .slice t3.a t3.len t3.cap]] W (RB (decide (frI (mn k * rt k) ((md k).natAbs * 1) < 0)) (frI (mn k * rt k) ((md k).natAbs * 1)).natAbs (frd (mn k * rt k) ((md k).natAbs * 1)) W)) := Lib.hid fun W s2 t2 s3 t3 h1 h2 h3 h4 => rterm_calls (mn k) (rt k) (md k) hvk hck2 W s2 t2 s3 t3 h1 h2 h3 h4
                  have CPk : Hid (∀ (W : World) (s4 t4 : Sl), Below wr.heap.size wr W → NumAt W s4 (frI (mn k * rt k) ((md k).natAbs * 1)).natAbs → NumAt W t4 (frd (mn k * rt k) ((md k).natAbs * 1)) → Calls Try.prog 41 #[.agg #[.bool (decide (frI (totN rt mn (fdN md) k) (totD (fdN md) k) < 0)), .slice s.a s.len s.cap, .slice t.a t.len t.cap], .agg #[.bool (decide (frI (mn k * rt k) ((md k).natAbs * 1) < 0)), .slice s4.a s4.len s4.cap, .slice t4.a t4.len t4.cap]] W (RBig W (totN rt mn (fdN md) (k + 1)) (totD (fdN md) (k + 1)))) := Lib.hid fun W s4 t4 hb h3 h4 => radd_calls _ _ (mn k) (rt k) (md k) (HDp.out k hk) hBk.1 hBk.2 hvk hck2 W s t s4 t4 (HS7.out.later hb) (HT7'.out.later hb) h3 h4
                  generalize hN1 : totN rt mn (fdN md) (k + 1) = N1 at *
                  generalize hD1 : totD (fdN md) (k + 1) = D1 at *
                  have HN1 := Lib.hid hN1
                  have HD1 := Lib.hid hD1
                  clear hN1 hD1 hT CM CW0 HX HVA HDp HBr hBk hck hck2 hvk hfp HS7 HT7' HRT HB2 HBA
                  generalize decide (frI (totN rt mn (fdN md) k) (totD (fdN md) k) < 0) = g7 at *
                  generalize frd (mn k * rt k) ((md k).natAbs * 1) = v3 at *
                  generalize frI (mn k * rt k) ((md k).natAbs * 1) = v2 at *
                  generalize decide (v2 < 0) = g4 at *
                  generalize decide (mn k < 0) = g1 at *
                  generalize decide (rt k < 0) = g2 at *
                  generalize mn k = fk at *
                  generalize md k = gk at *
                  generalize rt k = ck at *
                  go_wp2_with fail
                  refine wp_region_lin (by kernel_rfl) (by kernel_rfl) ?_
                  intro y0
                  have y0s := y0.size
                  repeat (refine lin_calm rfl ?_; intro KK hKK; go_big_quiet_step (fail); refine wpQuiet_nil ?_; refine hKK _ ?_; clear hKK KK)
                  refine lin_free rfl ?_
                  intro KK hKK
                  go_wp2_with (go_at_call 62; (with_reducible refine Calls.mono (CMk.out _) ?_); rintro e _ ⟨s2, t2, rfl, hs2, ht2, hcz⟩; obtain ⟨z1, rfl⟩ := Cls.step y0 hcz; have z1s := z1.size; have HZ2 := Lib.hid hs2; have HZ3 := Lib.hid ht2; clear hs2 ht2)
                  refine hKK _ _ (.inr ⟨z1, rfl⟩) ?_
                  clear hKK KK
                  repeat (refine lin_calm rfl ?_; intro KK hKK; go_big_quiet_step (fail); refine wpQuiet_nil ?_; refine hKK _ ?_; clear hKK KK)
                  refine lin_free rfl ?_
                  intro KK hKK
                  go_wp2_with (go_at_call 38; (with_reducible refine Calls.mono (CWk.out _) ?_); rintro e _ ⟨s3, t3, rfl, hs3, ht3, hcz2⟩; have HY2 := Lib.hid (HZ2.out.later hcz2.below); have HY3 := Lib.hid (HZ3.out.later hcz2.below); obtain ⟨z2, rfl⟩ := Cls.step z1 hcz2; have z2s := z2.size; have HY4 := Lib.hid hs3; have HY5 := Lib.hid ht3; clear hs3 ht3)
                  refine hKK _ _ (.inr ⟨z2, rfl⟩) ?_
                  clear hKK KK
                  repeat (refine lin_calm rfl ?_; intro KK hKK; go_big_quiet_step (fail); refine wpQuiet_nil ?_; refine hKK _ ?_; clear hKK KK)
                  refine lin_free rfl ?_
                  intro KK hKK
                  go_wp2_with (go_at_call 39; (with_reducible refine Calls.mono (CTk.out _ s2 t2 s3 t3 HY2.out HY3.out HY4.out HY5.out) ?_); rintro e _ ⟨s4, t4, rfl, hs4, ht4, hcz3⟩; obtain ⟨z3, rfl⟩ := Cls.step z2 hcz3; have z3s := z3.size; have HX4 := Lib.hid hs4; have HX5 := Lib.hid ht4; clear hs4 ht4)
                  refine hKK _ _ (.inr ⟨z3, rfl⟩) ?_
                  clear hKK KK
                  repeat (refine lin_calm rfl ?_; intro KK hKK; go_big_quiet_step (fail); refine wpQuiet_nil ?_; refine hKK _ ?_; clear hKK KK)
                  refine lin_free rfl ?_
                  intro KK hKK
                  go_wp2_with (go_at_call 41; (with_reducible refine Calls.mono (CPk.out z3.val s4 t4 z3.below HX4.out HX5.out) ?_); rintro e _ ⟨s5, t5, rfl, hs5, ht5, hcz4⟩; obtain ⟨z4, rfl⟩ := Cls.step z3 hcz4; have z4s := z4.size; have HT4 := Lib.hid ((z4.below.block y1.val.heap.size hb7l).trans HT7.out); obtain ⟨m0, m1, m2, m3, m4, m5, m6⟩ := three_n HT4.out)
                  refine hKK _ _ (.inr ⟨z4, rfl⟩) ?_
                  clear hKK KK
                  repeat (refine lin_calm rfl ?_; intro KK hKK; go_big_quiet_step (fail); refine wpQuiet_nil ?_; refine hKK _ ?_; clear hKK KK)
                  refine lin_free rfl ?_
                  intro KK hKK
                  go_wp2_with fail
                  refine hKK _ _ (by first | exact .inl rfl | exact .inl trivial) ?_
                  clear hKK KK
                  refine lin_nil ?_
                  have HF := Lib.hid (RTotAt.mk' (N := N1) (D := D1) HT4.out hb7 hs5 ht5 (z4.on HBL.out (by simpa using hBs)))
                  go_wp2_with fail
                  go_roundw
                  case rel => exact ⟨k + 1, by omega, by go_num, Lib.hid (by rw [HN1.out, HD1.out]; exact HF.out)⟩
                  case measure => simp [intOf]; omega
                · have hkn : n = k := by omega
                  subst hkn
                  obtain ⟨hx2, zf0, zf1, zf2, z0, z1, z2⟩ := three_n HX1.out
                  have HBA2 := Lib.hid (HBA.out.later HBL.out)
                  have HCls : Hid (Below w.heap.size w wr) := Lib.hid (by
                    have q := x.below.trans (HBL.out.mono (by simpa using xs))
                    exact (((Below.refl w.heap.size w).alloc (Nat.le_refl _) _).alloc (by simp) _).trans (q.mono (by simp; omega)))
                  have hG : Hid (decide (frI (totN rt mn (fdN md) n) (totD (fdN md) n) < 0) = decide (frI (totN rt mn (fdN md) n) (totD (fdN md) n) < 0)) := Lib.hid rfl
                  generalize hg7 : decide (frI (totN rt mn (fdN md) n) (totD (fdN md) n) < 0) = g7 at e0 hG
                  have hz := heap_setCell_same _ (w.heap.size + 1) 2 _ _ (.slice t.a t.len t.cap) (heap_setCell_same _ (w.heap.size + 1) 1 _ _ (.slice s.a s.len s.cap) (heap_setCell_same wr (w.heap.size + 1) 0 _ _ (.bool g7) HX1.out))
                  obtain ⟨_, k0, k1, k2⟩ := three_s hz
                  have K0 : Hid (((((wr.setCell ⟨w.heap.size + 1, 0, none⟩ (.bool g7)).setCell ⟨w.heap.size + 1, 1, none⟩ (.slice s.a s.len s.cap)).setCell ⟨w.heap.size + 1, 2, none⟩ (.slice t.a t.len t.cap)).drew).cell? ⟨w.heap.size + 1, 0, none⟩ = some (.bool g7)) := Lib.hid k0
                  have K1 : Hid (((((wr.setCell ⟨w.heap.size + 1, 0, none⟩ (.bool g7)).setCell ⟨w.heap.size + 1, 1, none⟩ (.slice s.a s.len s.cap)).setCell ⟨w.heap.size + 1, 2, none⟩ (.slice t.a t.len t.cap)).drew).cell? ⟨w.heap.size + 1, 1, none⟩ = some (.slice s.a s.len s.cap)) := Lib.hid k1
                  have K2 : Hid (((((wr.setCell ⟨w.heap.size + 1, 0, none⟩ (.bool g7)).setCell ⟨w.heap.size + 1, 1, none⟩ (.slice s.a s.len s.cap)).setCell ⟨w.heap.size + 1, 2, none⟩ (.slice t.a t.len t.cap)).drew).cell? ⟨w.heap.size + 1, 2, none⟩ = some (.slice t.a t.len t.cap)) := Lib.hid k2
                  have HFIN : Hid (BigsA ((((wr.setCell ⟨w.heap.size + 1, 0, none⟩ (.bool g7)).setCell ⟨w.heap.size + 1, 1, none⟩ (.slice s.a s.len s.cap)).setCell ⟨w.heap.size + 1, 2, none⟩ (.slice t.a t.len t.cap)).drew) so (fun c => totN (fun i => co i c) mn (fdN md) n) (totD (fdN md) n) ∧ g7 = decide (frI (totN rt mn (fdN md) n) (totD (fdN md) n) < 0) ∧ NumAt ((((wr.setCell ⟨w.heap.size + 1, 0, none⟩ (.bool g7)).setCell ⟨w.heap.size + 1, 1, none⟩ (.slice s.a s.len s.cap)).setCell ⟨w.heap.size + 1, 2, none⟩ (.slice t.a t.len t.cap)).drew) s (frI (totN rt mn (fdN md) n) (totD (fdN md) n)).natAbs ∧ NumAt ((((wr.setCell ⟨w.heap.size + 1, 0, none⟩ (.bool g7)).setCell ⟨w.heap.size + 1, 1, none⟩ (.slice s.a s.len s.cap)).setCell ⟨w.heap.size + 1, 2, none⟩ (.slice t.a t.len t.cap)).drew) t (frd (totN rt mn (fdN md) n) (totD (fdN md) n))) := Lib.hid ⟨HBA2.out.store3 HX1.out (fun b off e => by have := hBo b off e; omega) _ _ _, hg7.symm, HS7.out.store3 HX1.out _ _ _, HT7'.out.store3 HX1.out _ _ _⟩
                  clear k0 k1 k2 hz HBA HBA2 HX1 HS7 HT7' HBr HRT HB2 HX CM CW0 HVA HDp hT HB0 HWc hg7 hG
                  go_wp2_with fail
                  go_region
                  all_goals
                    go_wp2_with fail
                    refine ret_ex rfl ⟨.tuple #[.slice so.a so.len so.cap, .agg #[.bool g7, .slice s.a s.len s.cap, .slice t.a t.len t.cap], .int .i64 0], by simp [results, Try.results29, go_sem, K0.out, K1.out, K2.out, hlo], ⟨so, g7, s, t, by rw [HV.out], fun _ => ⟨hlo, HFIN.out⟩, Cls.of ?_⟩⟩
                    exact (((HCls.out.setCell (by simp) _).setCell (by simp) _).setCell (by simp) _).drew

end Go.Proofs.Ythbdkhmgopahbaa
