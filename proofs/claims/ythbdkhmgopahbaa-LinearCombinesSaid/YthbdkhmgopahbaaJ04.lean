/-
  Which fractions are valid: the reference. The program's fractions: divisors, magnitudes, validity. The program's numbers of 128 bits: products, and how they are compared.
-/
import Derived.Test.YthbdkhmgopahbaaJ03
import Derived.Deep.RegionHeld3
import Derived.WalkSpells
import Derived.Shelf.Bits.Mul64
import Derived.Laws.Externs
set_option linter.unusedVariables false
namespace Go.Proofs.Ythbdkhmgopahbaa
open Go Go.RowKit Go.Deep
def rngB (n d : Int) : Bool := decide (1 ≤ d) && decide (d ≤ 100000000000000000) && decide (-100000000000000000 ≤ n) && decide (n ≤ 100000000000000000)
def vaB (n d : Int) : Bool := rngB n d && (Nat.gcd n.natAbs d.natAbs == 1)
theorem num_len {s : Sl} {w : World} {m : Nat} (h : NumAt w s m) (hm : m < 1000000000 ^ 3) : s.len ≤ 500 := by
  have := h.1
  have := digs_len_le hm
  omega
theorem one_num_at (w : World) (cs : Array Value) (t' t : TypeId) : NumAt ((w.alloc (.cells cs t')).alloc (.cells #[.int .u64 1] t)) ⟨some ⟨w.heap.size + 1, 0, none⟩, 1, 1⟩ 1 := by
  have := one_num (w.alloc (.cells cs t')) t
  simpa using this
set_option maxHeartbeats 8000000 in
set_option maxRecDepth 20000 in
theorem rValid_yes (n d : Int) (w : World) (h1 : 1 ≤ d) (h2 : d ≤ 100000000000000000) (h3 : -100000000000000000 ≤ n) (h4 : n ≤ 100000000000000000) :
    Calls Try.prog 61 #[.agg #[.int .i64 n, .int .i64 d]] w fun e w' => e = .returned (.bool (Nat.gcd n.natAbs d.natAbs == 1)) ∧ Cls w w' := by
  have HN : Hid (∀ (s : Sl) (W : World), NumAt W s n.natAbs → s.len ≤ 500) := Lib.hid fun s W h => num_len h (by omega)
  have HD : Hid (∀ (s : Sl) (W : World), NumAt W s d.natAbs → s.len ≤ 500) := Lib.hid fun s W h => num_len h (by omega)
  have C1 := Lib.hid (fun W => of_calls n W (by omega) (by omega))
  have C2 := Lib.hid (fun W => of_calls d W (by omega) (by omega))
  have HR : Hid ((Nat.gcd n.natAbs d.natAbs == 1) = (cmpN (Nat.gcd n.natAbs d.natAbs) 1 == 0)) := Lib.hid (by
    unfold cmpN
    rw [Bool.eq_iff_iff]
    simp only [beq_iff_eq]
    split <;> (try split) <;> omega)
  rw [HR.out]
  clear HR
  go_enter Try.func61, Try.ntmps61
  go_wp2_with fail
  go_region_held3 (fun w' => w'.cell? ⟨w.heap.size, 0, none⟩ = some (.int .i64 n) ∧ w'.cell? ⟨w.heap.size, 1, none⟩ = some (.int .i64 d))
    (first | go_keep | (refine ⟨?_, ?_⟩ <;> (rw [Ext.cell _ _ (by first | (simp; done) | (simp; omega) | omega)]; simp [*]; done)))
    (first
      | (go_at_call 67; (with_reducible refine (C1.out _).mono ?_); rintro e _ ⟨sn, rfl, hsn, ⟨yn, rfl⟩⟩; have YN := yn.size; (try simp at YN))
      | (go_at_call 67; (with_reducible refine (C2.out _).mono ?_); rintro e _ ⟨sd, rfl, hsd, ⟨yd, rfl⟩⟩; have YD := yd.size; (try simp at YD))
      | (go_at_call 96; have G := Lib.hid (fun W hb1 hb2 => gcd_calls sn.a sn.len sn.cap sd.a sd.len sd.cap _ _ W (hsn.later hb1) (hsd.later hb2) (HN.out _ _ hsn) (HD.out _ _ hsd)); (with_reducible refine Calls.mono (G.out _ ?_ ?_) ?_); (focus (repeat first | with_reducible exact Below.refl _ _ | with_reducible refine Below.setCell ?_ (by first | omega | (simp; done) | (simp; omega)) _ | with_reducible refine Below.alloc ?_ (by first | omega | (simp; done) | (simp; omega)) _ | with_reducible refine Below.drew ?_ | with_reducible refine Ext.on _ ?_ (by first | omega | (simp; done) | (simp; omega)))); (focus (repeat first | with_reducible exact Below.refl _ _ | with_reducible refine Below.setCell ?_ (by first | omega | (simp; done) | (simp; omega)) _ | with_reducible refine Below.alloc ?_ (by first | omega | (simp; done) | (simp; omega)) _ | with_reducible refine Below.drew ?_ | with_reducible refine Ext.on _ ?_ (by first | omega | (simp; done) | (simp; omega)))); rintro e _ ⟨sg, rfl, hsg, ⟨yg, rfl⟩⟩; have YG := yg.size; (try simp at YG); clear G)
      | (go_at_call 71; have G := Lib.hid (fun (W X : World) hb1 hb2 => compare_calls sg.a sg.len sg.cap (some ⟨X.heap.size, 0, none⟩) 1 1 _ _ W (hsg.later hb1) ((one_num X 91).later hb2)); (with_reducible refine Calls.mono (G.out _ _ ?_ ?_) ?_); (focus (repeat first | with_reducible exact Below.refl _ _ | with_reducible refine Below.setCell ?_ (by first | omega | (simp; done) | (simp; omega)) _ | with_reducible refine Below.alloc ?_ (by first | omega | (simp; done) | (simp; omega)) _ | with_reducible refine Below.drew ?_ | with_reducible refine Ext.on _ ?_ (by first | omega | (simp; done) | (simp; omega)))); (focus (repeat first | with_reducible exact Below.refl _ _ | with_reducible refine Below.setCell ?_ (by first | omega | (simp; done) | (simp; omega)) _ | with_reducible refine Below.alloc ?_ (by first | omega | (simp; done) | (simp; omega)) _ | with_reducible refine Below.drew ?_ | with_reducible refine Ext.on _ ?_ (by first | omega | (simp; done) | (simp; omega)))); rintro e _ ⟨rfl, ⟨yc, rfl⟩⟩; have YC := yc.size; (try simp at YC); clear G)
      | (go_at_call 71; have G := Lib.hid (fun (W : World) hb1 hb2 => compare_calls sg.a sg.len sg.cap (some ⟨w.heap.size + 1, 0, none⟩) 1 1 _ _ W (hsg.later hb1) ((one_num_at w #[.int .i64 n, .int .i64 d] 34 91).later hb2)); (with_reducible refine Calls.mono (G.out _ ?_ ?_) ?_); (focus (repeat first | with_reducible exact Below.refl _ _ | with_reducible refine Below.setCell ?_ (by first | omega | (simp; done) | (simp; omega)) _ | with_reducible refine Below.alloc ?_ (by first | omega | (simp; done) | (simp; omega)) _ | with_reducible refine Below.drew ?_ | with_reducible refine Ext.on _ ?_ (by first | omega | (simp; done) | (simp; omega)))); (focus (repeat first | with_reducible exact Below.refl _ _ | with_reducible refine Below.setCell ?_ (by first | omega | (simp; done) | (simp; omega)) _ | with_reducible refine Below.alloc ?_ (by first | omega | (simp; done) | (simp; omega)) _ | with_reducible refine Below.drew ?_ | with_reducible refine Ext.on _ ?_ (by first | omega | (simp; done) | (simp; omega)))); rintro e _ ⟨rfl, ⟨yc, rfl⟩⟩; have YC := yc.size; (try simp at YC); clear G))
  all_goals
    go_wp2
    go_ret
    refine ⟨rfl, Cls.of ?_⟩
    repeat first | with_reducible exact Below.refl _ _ | with_reducible refine Below.setCell ?_ (by first | omega | (simp; done) | (simp; omega)) _ | with_reducible refine Below.alloc ?_ (by first | omega | (simp; done) | (simp; omega)) _ | with_reducible refine Below.drew ?_ | with_reducible refine Ext.on _ ?_ (by first | omega | (simp; done) | (simp; omega))
theorem rngB_parts {n d : Int} (h : rngB n d = false) : ¬ 1 ≤ d ∨ (1 ≤ d ∧ ¬ d ≤ 100000000000000000) ∨ (1 ≤ d ∧ d ≤ 100000000000000000 ∧ ¬ -100000000000000000 ≤ n) ∨ (1 ≤ d ∧ d ≤ 100000000000000000 ∧ -100000000000000000 ≤ n ∧ ¬ n ≤ 100000000000000000) := by
  unfold rngB at h
  simp at h
  omega
set_option maxHeartbeats 4000000 in
theorem rValid_no (n d : Int) (w : World) (h : rngB n d = false) :
    Calls Try.prog 61 #[.agg #[.int .i64 n, .int .i64 d]] w fun e w' => e = .returned (.bool false) ∧ Cls w w' := by
  rcases rngB_parts h with h1 | ⟨h1, h2⟩ | ⟨h1, h2, h3⟩ | ⟨h1, h2, h3, h4⟩
  · have d1 : decide (1 ≤ d) = false := decide_eq_false h1
    clear h
    go_enter Try.func61, Try.ntmps61
    go_wp2_with fail
    refine wp_region_ext (by kernel_rfl) (by kernel_rfl) ?_
    repeat (go_big_quiet_step (fail))
    refine wpQuiet_nil ?_
    rintro _ ⟨y1, rfl⟩
    go_wp2_with fail
    go_ret
    refine ⟨rfl, Cls.of ?_⟩
    repeat first | with_reducible exact Below.refl _ _ | with_reducible refine Below.setCell ?_ (by first | omega | (simp; done) | (simp; omega)) _ | with_reducible refine Below.alloc ?_ (by first | omega | (simp; done) | (simp; omega)) _ | with_reducible refine Below.drew ?_ | with_reducible refine Ext.on _ ?_ (by first | omega | (simp; done) | (simp; omega))
  · have d1 : decide (1 ≤ d) = true := decide_eq_true h1
    have d2 : decide (d ≤ 100000000000000000) = false := decide_eq_false h2
    clear h
    go_enter Try.func61, Try.ntmps61
    go_wp2_with fail
    refine wp_region_ext (by kernel_rfl) (by kernel_rfl) ?_
    repeat (go_big_quiet_step (fail))
    refine wpQuiet_nil ?_
    rintro _ ⟨y1, rfl⟩
    go_wp2_with fail
    go_ret
    refine ⟨rfl, Cls.of ?_⟩
    repeat first | with_reducible exact Below.refl _ _ | with_reducible refine Below.setCell ?_ (by first | omega | (simp; done) | (simp; omega)) _ | with_reducible refine Below.alloc ?_ (by first | omega | (simp; done) | (simp; omega)) _ | with_reducible refine Below.drew ?_ | with_reducible refine Ext.on _ ?_ (by first | omega | (simp; done) | (simp; omega))
  · have d1 : decide (1 ≤ d) = true := decide_eq_true h1
    have d2 : decide (d ≤ 100000000000000000) = true := decide_eq_true h2
    have d3 : decide (-100000000000000000 ≤ n) = false := decide_eq_false h3
    clear h
    go_enter Try.func61, Try.ntmps61
    go_wp2_with fail
    refine wp_region_ext (by kernel_rfl) (by kernel_rfl) ?_
    repeat (go_big_quiet_step (fail))
    refine wpQuiet_nil ?_
    rintro _ ⟨y1, rfl⟩
    go_wp2_with fail
    go_ret
    refine ⟨rfl, Cls.of ?_⟩
    repeat first | with_reducible exact Below.refl _ _ | with_reducible refine Below.setCell ?_ (by first | omega | (simp; done) | (simp; omega)) _ | with_reducible refine Below.alloc ?_ (by first | omega | (simp; done) | (simp; omega)) _ | with_reducible refine Below.drew ?_ | with_reducible refine Ext.on _ ?_ (by first | omega | (simp; done) | (simp; omega))
  · have d1 : decide (1 ≤ d) = true := decide_eq_true h1
    have d2 : decide (d ≤ 100000000000000000) = true := decide_eq_true h2
    have d3 : decide (-100000000000000000 ≤ n) = true := decide_eq_true h3
    have d4 : decide (n ≤ 100000000000000000) = false := decide_eq_false h4
    clear h
    go_enter Try.func61, Try.ntmps61
    go_wp2_with fail
    refine wp_region_ext (by kernel_rfl) (by kernel_rfl) ?_
    repeat (go_big_quiet_step (fail))
    refine wpQuiet_nil ?_
    rintro _ ⟨y1, rfl⟩
    go_wp2_with fail
    go_ret
    refine ⟨rfl, Cls.of ?_⟩
    repeat first | with_reducible exact Below.refl _ _ | with_reducible refine Below.setCell ?_ (by first | omega | (simp; done) | (simp; omega)) _ | with_reducible refine Below.alloc ?_ (by first | omega | (simp; done) | (simp; omega)) _ | with_reducible refine Below.drew ?_ | with_reducible refine Ext.on _ ?_ (by first | omega | (simp; done) | (simp; omega))
theorem rngB_all {n d : Int} (h : rngB n d = true) : 1 ≤ d ∧ d ≤ 100000000000000000 ∧ -100000000000000000 ≤ n ∧ n ≤ 100000000000000000 := by
  unfold rngB at h
  simp at h
  omega
theorem rValid_calls (n d : Int) (w : World) :
    Calls Try.prog 61 #[.agg #[.int .i64 n, .int .i64 d]] w fun e w' => e = .returned (.bool (vaB n d)) ∧ Cls w w' := by
  cases h : rngB n d with
  | false =>
    have e : vaB n d = false := by simp [vaB, h]
    rw [e]; exact rValid_no n d w h
  | true =>
    have e : vaB n d = (Nat.gcd n.natAbs d.natAbs == 1) := by simp [vaB, h]
    obtain ⟨h1, h2, h3, h4⟩ := rngB_all h
    rw [e]; exact rValid_yes n d w h1 h2 h3 h4
end Go.Proofs.Ythbdkhmgopahbaa
set_option linter.unusedVariables false
namespace Go.Proofs.Ythbdkhmgopahbaa
open Go Go.RowKit Go.Deep
set_option maxHeartbeats 2000000 in
theorem divisor_calls (x y : Nat) (w : World) (hx : x < 18446744073709551616) (hy : y < 18446744073709551616) :
    Calls Try.prog 85 #[.int .u64 x, .int .u64 y] w fun e w' => e = .returned (.int .u64 ((Nat.gcd x y : Nat) : Int)) ∧ Cls w w' := by
  go_enter Try.func85, Try.ntmps85
  go_wp2_with fail
  go_loopw [0, 1] (fun s0 s1 wr => ∃ p q : Nat, p < 18446744073709551616 ∧ q < 18446744073709551616 ∧ s0 = .int .u64 p ∧ s1 = .int .u64 q ∧ Hid (Nat.gcd p q = Nat.gcd x y) ∧ Cls w wr) (fun _ s1 _ => (intOf s1).toNat)
  case atStart => exact ⟨x, y, hx, hy, rfl, rfl, Lib.hid rfl, Cls.of (Below.refl _ _)⟩
  case round =>
    obtain ⟨p, q, hp, hq, rfl, rfl, hG, z, rfl⟩ := hrel
    by_cases h0 : q = 0
    · subst h0
      go_wp2_with fail
      go_ret
      exact ⟨ret_int (by rw [← hG.out, Nat.gcd_zero_right]), z, rfl⟩
    · have HG : Hid (Nat.gcd q (p % q) = Nat.gcd x y) := Lib.hid (by rw [gcd_step _ _ (Nat.pos_of_ne_zero h0)]; exact hG.out)
      have HLT := Lib.hid (Nat.mod_lt p (Nat.pos_of_ne_zero h0))
      have d1 : ((q : Int) == 0) = false := by simp; omega
      have d2 : ((q : Int) != 0) = true := by simp; omega
      have H0 := Lib.hid h0
      have e1 : (p : Int).tmod (q : Int) = ((p % q : Nat) : Int) := by rw [Int.tmod_eq_emod_of_nonneg (by omega)]; omega
      have e2 : IntKind.u64.wrap ((p % q : Nat) : Int) = ((p % q : Nat) : Int) := u64_id (by have := HLT.out; omega)
      have h0' : ¬ ((q : Int) = 0) := by omega
      clear hG
      go_wp2_with fail
      refine wp_region_on (by kernel_rfl) (by kernel_rfl) ?_
      repeat (go_big_quiet_step (fail))
      refine wpQuiet_nil ?_
      rintro _ ⟨y1, rfl⟩
      clear e1 e2
      go_wp2_with fail
      go_roundw
      case rel => exact ⟨q, p % q, hq, by have := HLT.out; omega, rfl, by first | rfl | simp, HG, y1, rfl⟩
      case measure => have := HLT.out; first | (simp [intOf]; done) | (simp [intOf]; omega)
set_option maxHeartbeats 2000000 in
theorem magnitude_calls (n : Int) (w : World) (h0 : -9223372036854775808 ≤ n) (h1 : n ≤ 9223372036854775807) :
    Calls Try.prog 84 #[.int .i64 n] w fun e w' => e = .returned (.int .u64 (n.natAbs : Int)) ∧ w = w' := by
  obtain ⟨m, hm⟩ : ∃ m : Nat, m = n.natAbs := ⟨_, rfl⟩
  rw [← hm]
  by_cases hn : n < 0
  · have e1 : IntKind.u64.wrap n = 18446744073709551616 - (m : Int) := by rw [IntKind.wrap_u64]; omega
    have e2 : IntKind.u64.wrap (-(18446744073709551616 - (m : Int))) = (m : Int) := by rw [IntKind.wrap_u64]; omega
    clear hm
    go_enter Try.func84, Try.ntmps84
    go_wp2_with fail
    go_ret
    exact ⟨rfl, rfl⟩
  · have e1 : IntKind.u64.wrap n = (m : Int) := by rw [IntKind.wrap_u64]; omega
    clear hm
    go_enter Try.func84, Try.ntmps84
    go_wp2_with fail
    go_ret
    exact ⟨rfl, rfl⟩
set_option maxHeartbeats 4000000 in
theorem Valid_calls (n d : Int) (w : World) (h0 : -9223372036854775808 ≤ n) (h1 : n ≤ 9223372036854775807) (h2 : -9223372036854775808 ≤ d) (h3 : d ≤ 9223372036854775807) :
    Calls Try.prog 56 #[.agg #[.int .i64 n, .int .i64 d]] w fun e w' => e = .returned (.bool (vaB n d)) ∧ Cls w w' := by
  have C1 := Lib.hid (fun W => magnitude_calls n W h0 h1)
  by_cases hn : n.natAbs ≤ 100000000000000000
  · by_cases hd1 : 1 ≤ d
    · by_cases hd2 : d ≤ 100000000000000000
      · have hr : rngB n d = true := by unfold rngB; simp; omega
        have e : vaB n d = (Nat.gcd n.natAbs d.natAbs == 1) := by simp [vaB, hr]
        have C2 := Lib.hid (fun W => divisor_calls n.natAbs d.natAbs W (by omega) (by omega))
        rw [e]
        have e1 : IntKind.u64.wrap d = (d.natAbs : Int) := by rw [IntKind.wrap_u64]; omega
        have d1 : decide ((n.natAbs : Int) ≤ 100000000000000000) = true := decide_eq_true (by omega)
        have d2 : decide (1 ≤ d) = true := decide_eq_true hd1
        have d3 : decide (d ≤ 100000000000000000) = true := decide_eq_true hd2
        have HR : Hid ((Nat.gcd n.natAbs d.natAbs == 1) = (((Nat.gcd n.natAbs d.natAbs : Nat) : Int) == 1)) := Lib.hid (by rw [Bool.eq_iff_iff]; simp; omega)
        rw [HR.out]
        clear HR e hr
        generalize hdm : d.natAbs = dm at *
        generalize hnm : n.natAbs = nm at *
        clear hdm hnm
        generalize Nat.gcd nm dm = g at *
        go_enter Try.func56, Try.ntmps56
        go_wp2_with (first | (go_at_call 84; (with_reducible refine (C1.out _).mono ?_); rintro e _ ⟨rfl, rfl⟩) | (go_at_call 85; (with_reducible refine (C2.out _).mono ?_); rintro e _ ⟨rfl, ⟨y1, rfl⟩⟩))
        refine ret_ex rfl ?_
        simp [results, Try.results56, go_sem]
        refine Cls.of ?_
        repeat first | with_reducible exact Below.refl _ _ | with_reducible refine Below.setCell ?_ (by first | omega | (simp; done) | (simp; omega)) _ | with_reducible refine Below.alloc ?_ (by first | omega | (simp; done) | (simp; omega)) _ | with_reducible refine Below.drew ?_ | with_reducible refine Ext.on _ ?_ (by first | omega | (simp; done) | (simp; omega))
      · have e : vaB n d = false := by
          have hr : rngB n d = false := by unfold rngB; simp; omega
          simp [vaB, hr]
        rw [e]
        have d1 : decide ((n.natAbs : Int) ≤ 100000000000000000) = true := decide_eq_true (by omega)
        have d2 : decide (1 ≤ d) = true := decide_eq_true hd1
        have d3 : decide (d ≤ 100000000000000000) = false := decide_eq_false hd2
        clear e
        generalize hnm : n.natAbs = nm at *
        clear hnm
        go_enter Try.func56, Try.ntmps56
        go_wp2_with (go_at_call 84; (with_reducible refine (C1.out _).mono ?_); rintro e _ ⟨rfl, rfl⟩)
        refine ret_ex rfl ?_
        simp [results, Try.results56, go_sem]
        refine Cls.of ?_
        repeat first | with_reducible exact Below.refl _ _ | with_reducible refine Below.setCell ?_ (by first | omega | (simp; done) | (simp; omega)) _ | with_reducible refine Below.alloc ?_ (by first | omega | (simp; done) | (simp; omega)) _ | with_reducible refine Below.drew ?_ | with_reducible refine Ext.on _ ?_ (by first | omega | (simp; done) | (simp; omega))
    · have e : vaB n d = false := by
        have hr : rngB n d = false := by unfold rngB; simp; omega
        simp [vaB, hr]
      rw [e]
      have d1 : decide ((n.natAbs : Int) ≤ 100000000000000000) = true := decide_eq_true (by omega)
      have d2 : decide (1 ≤ d) = false := decide_eq_false hd1
      clear e
      generalize hnm : n.natAbs = nm at *
      clear hnm
      go_enter Try.func56, Try.ntmps56
      go_wp2_with (go_at_call 84; (with_reducible refine (C1.out _).mono ?_); rintro e _ ⟨rfl, rfl⟩)
      refine ret_ex rfl ?_
      simp [results, Try.results56, go_sem]
      refine Cls.of ?_
      repeat first | with_reducible exact Below.refl _ _ | with_reducible refine Below.setCell ?_ (by first | omega | (simp; done) | (simp; omega)) _ | with_reducible refine Below.alloc ?_ (by first | omega | (simp; done) | (simp; omega)) _ | with_reducible refine Below.drew ?_ | with_reducible refine Ext.on _ ?_ (by first | omega | (simp; done) | (simp; omega))
  · have e : vaB n d = false := by
      have hr : rngB n d = false := by unfold rngB; simp; omega
      simp [vaB, hr]
    rw [e]
    have d1 : decide ((n.natAbs : Int) ≤ 100000000000000000) = false := decide_eq_false (by omega)
    clear e
    generalize hnm : n.natAbs = nm at *
    clear hnm
    go_enter Try.func56, Try.ntmps56
    go_wp2_with (go_at_call 84; (with_reducible refine (C1.out _).mono ?_); rintro e _ ⟨rfl, rfl⟩)
    refine ret_ex rfl ?_
    simp [results, Try.results56, go_sem]
    refine Cls.of ?_
    repeat first | with_reducible exact Below.refl _ _ | with_reducible refine Below.setCell ?_ (by first | omega | (simp; done) | (simp; omega)) _ | with_reducible refine Below.alloc ?_ (by first | omega | (simp; done) | (simp; omega)) _ | with_reducible refine Below.drew ?_ | with_reducible refine Ext.on _ ?_ (by first | omega | (simp; done) | (simp; omega))
end Go.Proofs.Ythbdkhmgopahbaa
set_option linter.unusedVariables false
namespace Go.Proofs.Ythbdkhmgopahbaa
open Go Go.RowKit Go.Deep
/-- The two halves of a number of 128 bits. -/
def wHi (v : Int) : Int := v / 18446744073709551616 % 18446744073709551616
def wLo (v : Int) : Int := v % 18446744073709551616
theorem wHi_bd (v : Int) : 0 ≤ wHi v ∧ wHi v ≤ 18446744073709551615 := by unfold wHi; omega
theorem wLo_bd (v : Int) : 0 ≤ wLo v ∧ wLo v ≤ 18446744073709551615 := by unfold wLo; omega
set_option maxHeartbeats 1000000 in
theorem Mul64_calls (x y : Nat) (hx : x < 18446744073709551616) (hy : y < 18446744073709551616) (w : World) :
    Calls Try.prog 108 #[.int .u64 x, .int .u64 y] w fun e w' => e = .returned (.tuple #[.int .u64 ((x * y / 18446744073709551616 : Nat) : Int), .int .u64 ((x * y % 18446744073709551616 : Nat) : Int)]) ∧ w' = w := by
  obtain ⟨bd, bt, bw, hhi⟩ := Lib.mul64_hi x y hx hy
  have ba := Lib.half_mul_le (a := x / 4294967296) (b := y / 4294967296) (by omega) (by omega)
  have bb := Lib.half_mul_le (a := x / 4294967296) (b := y % 4294967296) (by omega) (by omega)
  have bc := Lib.half_mul_le (a := x % 4294967296) (b := y / 4294967296) (by omega) (by omega)
  have ba' : x / 4294967296 * (y / 4294967296) < 18446744073709551616 := by omega
  have bb' : x / 4294967296 * (y % 4294967296) < 18446744073709551616 := by omega
  have bc' : x % 4294967296 * (y / 4294967296) < 18446744073709551616 := by omega
  have bh1 : x / 4294967296 * (y / 4294967296) + (x / 4294967296 * (y % 4294967296) + x % 4294967296 * (y % 4294967296) / 4294967296) / 4294967296 < 18446744073709551616 := by omega
  have bh : x / 4294967296 * (y / 4294967296) + (x / 4294967296 * (y % 4294967296) + x % 4294967296 * (y % 4294967296) / 4294967296) / 4294967296 + ((x / 4294967296 * (y % 4294967296) + x % 4294967296 * (y % 4294967296) / 4294967296) % 4294967296 + x % 4294967296 * (y / 4294967296)) / 4294967296 < 18446744073709551616 := by omega
  go_enter Try.func108, Try.ntmps108
  go_wp2
  simp only [Mul64.maskN x hx, Mul64.maskN y hy, Mul64.divN, Mul64.mulN, Mul64.addN, Mul64.wrapN _ bd, Mul64.wrapN _ bb', Mul64.wrapN _ bt, Mul64.maskN _ bt, Mul64.wrapN _ bc', Mul64.wrapN _ bw, Mul64.wrapN _ ba', Mul64.wrapN _ bh1, Mul64.wrapN _ bh, Mul64.wrapM (x * y)]
  rw [hhi]
  go_ret2
  exact ⟨rfl, rfl⟩
/-- What the product of two numbers, taken without their signs, has to do with theirs. -/
theorem product_eq (a b : Int) (ha : -9223372036854775808 ≤ a ∧ a ≤ 9223372036854775807) (hb : -9223372036854775808 ≤ b ∧ b ≤ 9223372036854775807) (x y : Nat) (hx : (x : Int) = a % 18446744073709551616) (hy : (y : Int) = b % 18446744073709551616) :
    ((x * y % 18446744073709551616 : Nat) : Int) = wLo (a * b) ∧
    (((x * y / 18446744073709551616 : Nat) : Int) - (if a < 0 then (y : Int) else 0) - (if b < 0 then (x : Int) else 0)) % 18446744073709551616 = wHi (a * b) := by
  have ex : (x : Int) = a + (if a < 0 then 18446744073709551616 else 0) := by split <;> omega
  have ey : (y : Int) = b + (if b < 0 then 18446744073709551616 else 0) := by split <;> omega
  unfold wLo wHi
  have e : ((x * y : Nat) : Int) = a * b + (if a < 0 then 18446744073709551616 * b else 0) + (if b < 0 then 18446744073709551616 * a else 0) + (if a < 0 then if b < 0 then 18446744073709551616 * 18446744073709551616 else 0 else 0) := by
    rw [Int.natCast_mul, ex, ey]
    by_cases h1 : a < 0 <;> by_cases h2 : b < 0
    · simp only [if_pos h1, if_pos h2, Int.add_mul, Int.mul_add]; omega
    · simp only [if_pos h1, if_neg h2, Int.add_mul, Int.mul_add]; omega
    · simp only [if_neg h1, if_pos h2, Int.add_mul, Int.mul_add]; omega
    · simp only [if_neg h1, if_neg h2, Int.add_mul, Int.mul_add]; omega
  rw [Int.natCast_emod, Int.natCast_ediv]
  generalize ((x * y : Nat) : Int) = p at *
  generalize a * b = q at *
  by_cases h1 : a < 0 <;> by_cases h2 : b < 0
  · simp only [if_pos h1, if_pos h2] at *; omega
  · simp only [if_pos h1, if_neg h2] at *; omega
  · simp only [if_neg h1, if_pos h2] at *; omega
  · simp only [if_neg h1, if_neg h2] at *; omega
theorem two_z {W : World} {b : Nat} {a0 a1 : Value} {t : TypeId} (h : W.heap[b]? = some (.cells #[a0, a1] t)) :
    b < W.heap.size ∧ W.frozen? ⟨b, 0, none⟩ = false ∧ W.frozen? ⟨b, 1, none⟩ = false ∧ W.cell? ⟨b, 0, none⟩ = some a0 ∧ W.cell? ⟨b, 1, none⟩ = some a1 := by
  refine ⟨(Array.getElem?_eq_some_iff.1 h).1, by simp [World.frozen?, h], by simp [World.frozen?, h], ?_, ?_⟩
  all_goals
    rw [cell_of_row _ _ _ _ _ (0, 0) h]
    rfl
set_option maxHeartbeats 2000000 in
set_option maxRecDepth 20000 in
theorem product_calls (a b : Int) (w : World) (ha : -9223372036854775808 ≤ a ∧ a ≤ 9223372036854775807) (hb : -9223372036854775808 ≤ b ∧ b ≤ 9223372036854775807) :
    Calls Try.prog 101 #[.int .i64 a, .int .i64 b] w fun e w' => e = .returned (.agg #[.int .u64 (wHi (a * b)), .int .u64 (wLo (a * b))]) ∧ Cls w w' := by
  obtain ⟨x, hx⟩ : ∃ x : Nat, (x : Int) = a % 18446744073709551616 := ⟨(a % 18446744073709551616).toNat, by omega⟩
  obtain ⟨y, hy⟩ : ∃ y : Nat, (y : Int) = b % 18446744073709551616 := ⟨(b % 18446744073709551616).toNat, by omega⟩
  obtain ⟨e1, e2⟩ := product_eq a b ha hb x y hx hy
  have C1 := Lib.hid (fun W => Mul64_calls x y (by omega) (by omega) W)
  rw [e1] at C1
  have f1 : IntKind.u64.wrap a = (x : Int) := by rw [IntKind.wrap_u64]; omega
  have f2 : IntKind.u64.wrap b = (y : Int) := by rw [IntKind.wrap_u64]; omega
  have hh0 : ((x * y / 18446744073709551616 : Nat) : Int) < 18446744073709551616 := by
    have : x * y < 18446744073709551616 * 18446744073709551616 := Nat.mul_lt_mul_of_lt_of_lt (by omega) (by omega)
    omega
  generalize hhh : ((x * y / 18446744073709551616 : Nat) : Int) = h at *
  have hh1 : 0 ≤ h := by rw [← hhh]; omega
  have hx1 : (x : Int) < 18446744073709551616 := by omega
  have hy1 : (y : Int) < 18446744073709551616 := by omega
  have HX := Lib.hid hx
  have HYY := Lib.hid hy
  clear hx hy e1 hhh
  generalize wLo (a * b) = lo at *
  generalize wHi (a * b) = hi at *
  by_cases h1 : a < 0 <;> by_cases h2 : b < 0
  · simp only [if_pos h1, if_pos h2] at e2
    have d1 : decide (a < 0) = true := by simpa using h1
    have d2 : decide (b < 0) = true := by simpa using h2
    have g1 : IntKind.u64.wrap (IntKind.u64.wrap (h - y) - x) = hi := by rw [IntKind.wrap_u64, IntKind.wrap_u64]; omega
    clear e2 h1 h2 ha hb
    go_enter Try.func101, Try.ntmps101
    go_wp2_with (go_at_call 108; (with_reducible refine (C1.out _).mono ?_); rintro e _ ⟨rfl, rfl⟩)
    refine ret_ex rfl ?_
    simp [results, Try.results101, go_sem]
    refine Cls.of ?_
    repeat first | with_reducible exact Below.refl _ _ | with_reducible refine Below.setCell ?_ (by first | omega | (simp; done) | (simp; omega)) _ | with_reducible refine Below.alloc ?_ (by first | omega | (simp; done) | (simp; omega)) _ | with_reducible refine Below.drew ?_ | with_reducible refine Ext.on _ ?_ (by first | omega | (simp; done) | (simp; omega))
  · simp only [if_pos h1, if_neg h2] at e2
    have d1 : decide (a < 0) = true := by simpa using h1
    have d2 : decide (b < 0) = false := by simpa using h2
    have g1 : IntKind.u64.wrap (h - y) = hi := by rw [IntKind.wrap_u64]; omega
    clear e2 h1 h2 ha hb
    go_enter Try.func101, Try.ntmps101
    go_wp2_with (go_at_call 108; (with_reducible refine (C1.out _).mono ?_); rintro e _ ⟨rfl, rfl⟩)
    refine ret_ex rfl ?_
    simp [results, Try.results101, go_sem]
    refine Cls.of ?_
    repeat first | with_reducible exact Below.refl _ _ | with_reducible refine Below.setCell ?_ (by first | omega | (simp; done) | (simp; omega)) _ | with_reducible refine Below.alloc ?_ (by first | omega | (simp; done) | (simp; omega)) _ | with_reducible refine Below.drew ?_ | with_reducible refine Ext.on _ ?_ (by first | omega | (simp; done) | (simp; omega))
  · simp only [if_neg h1, if_pos h2] at e2
    have d1 : decide (a < 0) = false := by simpa using h1
    have d2 : decide (b < 0) = true := by simpa using h2
    have g1 : IntKind.u64.wrap (h - x) = hi := by rw [IntKind.wrap_u64]; omega
    clear e2 h1 h2 ha hb
    go_enter Try.func101, Try.ntmps101
    go_wp2_with (go_at_call 108; (with_reducible refine (C1.out _).mono ?_); rintro e _ ⟨rfl, rfl⟩)
    refine ret_ex rfl ?_
    simp [results, Try.results101, go_sem]
    refine Cls.of ?_
    repeat first | with_reducible exact Below.refl _ _ | with_reducible refine Below.setCell ?_ (by first | omega | (simp; done) | (simp; omega)) _ | with_reducible refine Below.alloc ?_ (by first | omega | (simp; done) | (simp; omega)) _ | with_reducible refine Below.drew ?_ | with_reducible refine Ext.on _ ?_ (by first | omega | (simp; done) | (simp; omega))
  · simp only [if_neg h1, if_neg h2] at e2
    have d1 : decide (a < 0) = false := by simpa using h1
    have d2 : decide (b < 0) = false := by simpa using h2
    obtain rfl : hi = h := by omega
    clear e2 h1 h2 ha hb
    go_enter Try.func101, Try.ntmps101
    go_wp2_with (go_at_call 108; (with_reducible refine (C1.out _).mono ?_); rintro e _ ⟨rfl, rfl⟩)
    refine ret_ex rfl ?_
    simp [results, Try.results101, go_sem]
    refine Cls.of ?_
    repeat first | with_reducible exact Below.refl _ _ | with_reducible refine Below.setCell ?_ (by first | omega | (simp; done) | (simp; omega)) _ | with_reducible refine Below.alloc ?_ (by first | omega | (simp; done) | (simp; omega)) _ | with_reducible refine Below.drew ?_ | with_reducible refine Ext.on _ ?_ (by first | omega | (simp; done) | (simp; omega))
def cmpI (a b : Int) : Int := if a < b then -1 else if b < a then 1 else 0
theorem cmpI64_calls (a b : Int) (w : World) : Calls Try.prog 114 #[.int .i64 a, .int .i64 b] w fun e w' => e = .returned (.int .i64 (cmpI a b)) ∧ w = w' := by
  go_enter Try.func114, Try.ntmps114
  go_wp2
  all_goals
    go_ret
    refine ⟨ret_int ?_, rfl⟩
    unfold cmpI
    repeat (first | rfl | rw [if_pos (by omega)] | rw [if_neg (by omega)])
theorem cmpU64_calls (a b : Int) (w : World) : Calls Try.prog 95 #[.int .u64 a, .int .u64 b] w fun e w' => e = .returned (.int .i64 (cmpI a b)) ∧ w = w' := by
  go_enter Try.func95, Try.ntmps95
  go_wp2
  all_goals
    go_ret
    refine ⟨ret_int ?_, rfl⟩
    unfold cmpI
    repeat (first | rfl | rw [if_pos (by omega)] | rw [if_neg (by omega)])
/-- The first of two numbers that is not 0. -/
def orI (a b : Int) : Int := if a = 0 then b else a
set_option maxHeartbeats 2000000 in
theorem Or_calls (g : Nat) (a b : Int) (w : World) (hg : g < w.heap.size) (c0 : w.cell? ⟨g, 0, none⟩ = some (.int .i64 a)) (c1 : w.cell? ⟨g, 1, none⟩ = some (.int .i64 b)) :
    Calls Try.prog 113 #[.slice (some ⟨g, 0, none⟩) 2 2] w fun e w' => e = .returned (.int .i64 (orI a b)) ∧ w = w' := by
  have HO := Lib.hid (show a ≠ 0 → orI a b = a from fun h => if_neg h)
  have HO2 := Lib.hid (show a = 0 → orI a b = b from fun h => if_pos h)
  generalize orI a b = r at *
  go_enter Try.func113, Try.ntmps113
  go_wp2_with fail
  go_loop [8] (fun i => ∃ k : Nat, k ≤ 2 ∧ i = .int .i64 k ∧ Hid (1 ≤ k → a = 0) ∧ Hid (2 ≤ k → b = 0)) (fun i => (2 - intOf i).toNat)
  case atStart => exact ⟨0, by omega, rfl, Lib.hid (fun h => by omega), Lib.hid (fun h => by omega)⟩
  case round =>
    obtain ⟨k, hk, rfl, H1, H2⟩ := hrel
    rcases (show k = 0 ∨ k = 1 ∨ k = 2 by omega) with rfl | rfl | rfl
    · by_cases h0 : a = 0
      · have d1 : (a != 0) = false := by simp [h0]
        have H0 := Lib.hid h0
        clear h0
        go_wp2_with fail
        go_round
        case rel => exact ⟨1, by omega, rfl, Lib.hid (fun _ => H0.out), Lib.hid (fun h => by omega)⟩
        case measure => simp [intOf]
      · have d1 : (a != 0) = true := by simp [h0]
        have H0 := Lib.hid (HO.out h0)
        clear h0
        go_wp2_with fail
        go_ret
        exact ⟨ret_int H0.out.symm, rfl⟩
    · have HR := Lib.hid (HO2.out (H1.out (by omega)))
      by_cases h0 : b = 0
      · have d1 : (b != 0) = false := by simp [h0]
        have H0 := Lib.hid h0
        clear h0
        go_wp2_with fail
        go_round
        case rel => exact ⟨2, by omega, rfl, Lib.hid (fun _ => H1.out (by omega)), Lib.hid (fun _ => H0.out)⟩
        case measure => simp [intOf]
      · have d1 : (b != 0) = true := by simp [h0]
        clear h0
        go_wp2_with fail
        go_ret
        exact ⟨ret_int HR.out.symm, rfl⟩
    · have HR := Lib.hid ((HO2.out (H1.out (by omega))).trans (H2.out (by omega)))
      go_wp2_with fail
      go_ret
      exact ⟨ret_int HR.out.symm, rfl⟩
end Go.Proofs.Ythbdkhmgopahbaa
