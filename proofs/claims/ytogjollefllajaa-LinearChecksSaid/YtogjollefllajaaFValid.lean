/-
  Which fractions are valid: the reference.
-/
import Derived.Test.YtogjollefllajaaFGcd
import Derived.Deep.RegionHeld3
import Derived.WalkSpells
set_option linter.unusedVariables false
namespace Go.Proofs.Ytogjollefllajaa
open Go Go.RowKit Go.Deep
def rngB (n d : Int) : Bool := decide (1 ≤ d) && decide (d ≤ 100000000000000000) && decide (-100000000000000000 ≤ n) && decide (n ≤ 100000000000000000)
def vaB (n d : Int) : Bool := rngB n d && (Nat.gcd n.natAbs d.natAbs == 1)
theorem num_len {s : Sl} {w : World} {m : Nat} (h : NumAt w s m) (hm : m < 1000000000 ^ 3) : s.len ≤ 500 := by
  have := h.1
  have := digs_len_le hm
  omega
theorem one_num_at (w : World) (cs : Array Value) (t' t : TypeId) : NumAt ((w.alloc (.cells cs t')).alloc (.cells #[.int .u64 1] t)) ⟨some ⟨w.heap.size + 1, 0, none⟩, 1, 1⟩ 1 := by
  have := one_num (w.alloc (.cells cs t')) t
  simpa using this
set_option maxHeartbeats 8000000 in
set_option maxRecDepth 20000 in
theorem rValid_yes (n d : Int) (w : World) (h1 : 1 ≤ d) (h2 : d ≤ 100000000000000000) (h3 : -100000000000000000 ≤ n) (h4 : n ≤ 100000000000000000) :
    Calls Try.prog 28 #[.agg #[.int .i64 n, .int .i64 d]] w fun e w' => e = .returned (.bool (Nat.gcd n.natAbs d.natAbs == 1)) ∧ Cls w w' := by
  have HN : Hid (∀ (s : Sl) (W : World), NumAt W s n.natAbs → s.len ≤ 500) := Lib.hid fun s W h => num_len h (by omega)
  have HD : Hid (∀ (s : Sl) (W : World), NumAt W s d.natAbs → s.len ≤ 500) := Lib.hid fun s W h => num_len h (by omega)
  have C1 := Lib.hid (fun W => of_calls n W (by omega) (by omega))
  have C2 := Lib.hid (fun W => of_calls d W (by omega) (by omega))
  have HR : Hid ((Nat.gcd n.natAbs d.natAbs == 1) = (cmpN (Nat.gcd n.natAbs d.natAbs) 1 == 0)) := Lib.hid (by
    unfold cmpN
    rw [Bool.eq_iff_iff]
    simp only [beq_iff_eq]
    split <;> (try split) <;> omega)
  rw [HR.out]
  clear HR
  go_enter Try.func28, Try.ntmps28
  go_wp2_with fail
  go_region_held3 (fun w' => w'.cell? ⟨w.heap.size, 0, none⟩ = some (.int .i64 n) ∧ w'.cell? ⟨w.heap.size, 1, none⟩ = some (.int .i64 d))
    (first | go_keep | (refine ⟨?_, ?_⟩ <;> (rw [Ext.cell _ _ (by first | (simp; done) | (simp; omega) | omega)]; simp [*]; done)))
    (first
      | (go_at_call 55; (with_reducible refine (C1.out _).mono ?_); rintro e _ ⟨sn, rfl, hsn, ⟨yn, rfl⟩⟩; have YN := yn.size; (try simp at YN))
      | (go_at_call 55; (with_reducible refine (C2.out _).mono ?_); rintro e _ ⟨sd, rfl, hsd, ⟨yd, rfl⟩⟩; have YD := yd.size; (try simp at YD))
      | (go_at_call 54; have G := Lib.hid (fun W hb1 hb2 => gcd_calls sn.a sn.len sn.cap sd.a sd.len sd.cap _ _ W (hsn.later hb1) (hsd.later hb2) (HN.out _ _ hsn) (HD.out _ _ hsd)); (with_reducible refine Calls.mono (G.out _ ?_ ?_) ?_); (focus (repeat first | with_reducible exact Below.refl _ _ | with_reducible refine Below.setCell ?_ (by first | omega | (simp; done) | (simp; omega)) _ | with_reducible refine Below.alloc ?_ (by first | omega | (simp; done) | (simp; omega)) _ | with_reducible refine Below.drew ?_ | with_reducible refine Ext.on _ ?_ (by first | omega | (simp; done) | (simp; omega)))); (focus (repeat first | with_reducible exact Below.refl _ _ | with_reducible refine Below.setCell ?_ (by first | omega | (simp; done) | (simp; omega)) _ | with_reducible refine Below.alloc ?_ (by first | omega | (simp; done) | (simp; omega)) _ | with_reducible refine Below.drew ?_ | with_reducible refine Ext.on _ ?_ (by first | omega | (simp; done) | (simp; omega)))); rintro e _ ⟨sg, rfl, hsg, ⟨yg, rfl⟩⟩; have YG := yg.size; (try simp at YG); clear G)
      | (go_at_call 53; have G := Lib.hid (fun (W X : World) hb1 hb2 => compare_calls sg.a sg.len sg.cap (some ⟨X.heap.size, 0, none⟩) 1 1 _ _ W (hsg.later hb1) ((one_num X 82).later hb2)); (with_reducible refine Calls.mono (G.out _ _ ?_ ?_) ?_); (focus (repeat first | with_reducible exact Below.refl _ _ | with_reducible refine Below.setCell ?_ (by first | omega | (simp; done) | (simp; omega)) _ | with_reducible refine Below.alloc ?_ (by first | omega | (simp; done) | (simp; omega)) _ | with_reducible refine Below.drew ?_ | with_reducible refine Ext.on _ ?_ (by first | omega | (simp; done) | (simp; omega)))); (focus (repeat first | with_reducible exact Below.refl _ _ | with_reducible refine Below.setCell ?_ (by first | omega | (simp; done) | (simp; omega)) _ | with_reducible refine Below.alloc ?_ (by first | omega | (simp; done) | (simp; omega)) _ | with_reducible refine Below.drew ?_ | with_reducible refine Ext.on _ ?_ (by first | omega | (simp; done) | (simp; omega)))); rintro e _ ⟨rfl, ⟨yc, rfl⟩⟩; have YC := yc.size; (try simp at YC); clear G)
      | (go_at_call 53; have G := Lib.hid (fun (W : World) hb1 hb2 => compare_calls sg.a sg.len sg.cap (some ⟨w.heap.size + 1, 0, none⟩) 1 1 _ _ W (hsg.later hb1) ((one_num_at w #[.int .i64 n, .int .i64 d] 38 82).later hb2)); (with_reducible refine Calls.mono (G.out _ ?_ ?_) ?_); (focus (repeat first | with_reducible exact Below.refl _ _ | with_reducible refine Below.setCell ?_ (by first | omega | (simp; done) | (simp; omega)) _ | with_reducible refine Below.alloc ?_ (by first | omega | (simp; done) | (simp; omega)) _ | with_reducible refine Below.drew ?_ | with_reducible refine Ext.on _ ?_ (by first | omega | (simp; done) | (simp; omega)))); (focus (repeat first | with_reducible exact Below.refl _ _ | with_reducible refine Below.setCell ?_ (by first | omega | (simp; done) | (simp; omega)) _ | with_reducible refine Below.alloc ?_ (by first | omega | (simp; done) | (simp; omega)) _ | with_reducible refine Below.drew ?_ | with_reducible refine Ext.on _ ?_ (by first | omega | (simp; done) | (simp; omega)))); rintro e _ ⟨rfl, ⟨yc, rfl⟩⟩; have YC := yc.size; (try simp at YC); clear G))
  all_goals
    go_wp2
    go_ret
    refine ⟨rfl, Cls.of ?_⟩
    repeat first | with_reducible exact Below.refl _ _ | with_reducible refine Below.setCell ?_ (by first | omega | (simp; done) | (simp; omega)) _ | with_reducible refine Below.alloc ?_ (by first | omega | (simp; done) | (simp; omega)) _ | with_reducible refine Below.drew ?_ | with_reducible refine Ext.on _ ?_ (by first | omega | (simp; done) | (simp; omega))
theorem rngB_parts {n d : Int} (h : rngB n d = false) : ¬ 1 ≤ d ∨ (1 ≤ d ∧ ¬ d ≤ 100000000000000000) ∨ (1 ≤ d ∧ d ≤ 100000000000000000 ∧ ¬ -100000000000000000 ≤ n) ∨ (1 ≤ d ∧ d ≤ 100000000000000000 ∧ -100000000000000000 ≤ n ∧ ¬ n ≤ 100000000000000000) := by
  unfold rngB at h
  simp at h
  omega
set_option maxHeartbeats 4000000 in
theorem rValid_no (n d : Int) (w : World) (h : rngB n d = false) :
    Calls Try.prog 28 #[.agg #[.int .i64 n, .int .i64 d]] w fun e w' => e = .returned (.bool false) ∧ Cls w w' := by
  rcases rngB_parts h with h1 | ⟨h1, h2⟩ | ⟨h1, h2, h3⟩ | ⟨h1, h2, h3, h4⟩
  · have d1 : decide (1 ≤ d) = false := decide_eq_false h1
    clear h
    go_enter Try.func28, Try.ntmps28
    go_wp2_with fail
    refine wp_region_ext (by kernel_rfl) (by kernel_rfl) ?_
    repeat (go_big_quiet_step (fail))
    refine wpQuiet_nil ?_
    rintro _ ⟨y1, rfl⟩
    go_wp2_with fail
    go_ret
    refine ⟨rfl, Cls.of ?_⟩
    repeat first | with_reducible exact Below.refl _ _ | with_reducible refine Below.setCell ?_ (by first | omega | (simp; done) | (simp; omega)) _ | with_reducible refine Below.alloc ?_ (by first | omega | (simp; done) | (simp; omega)) _ | with_reducible refine Below.drew ?_ | with_reducible refine Ext.on _ ?_ (by first | omega | (simp; done) | (simp; omega))
  · have d1 : decide (1 ≤ d) = true := decide_eq_true h1
    have d2 : decide (d ≤ 100000000000000000) = false := decide_eq_false h2
    clear h
    go_enter Try.func28, Try.ntmps28
    go_wp2_with fail
    refine wp_region_ext (by kernel_rfl) (by kernel_rfl) ?_
    repeat (go_big_quiet_step (fail))
    refine wpQuiet_nil ?_
    rintro _ ⟨y1, rfl⟩
    go_wp2_with fail
    go_ret
    refine ⟨rfl, Cls.of ?_⟩
    repeat first | with_reducible exact Below.refl _ _ | with_reducible refine Below.setCell ?_ (by first | omega | (simp; done) | (simp; omega)) _ | with_reducible refine Below.alloc ?_ (by first | omega | (simp; done) | (simp; omega)) _ | with_reducible refine Below.drew ?_ | with_reducible refine Ext.on _ ?_ (by first | omega | (simp; done) | (simp; omega))
  · have d1 : decide (1 ≤ d) = true := decide_eq_true h1
    have d2 : decide (d ≤ 100000000000000000) = true := decide_eq_true h2
    have d3 : decide (-100000000000000000 ≤ n) = false := decide_eq_false h3
    clear h
    go_enter Try.func28, Try.ntmps28
    go_wp2_with fail
    refine wp_region_ext (by kernel_rfl) (by kernel_rfl) ?_
    repeat (go_big_quiet_step (fail))
    refine wpQuiet_nil ?_
    rintro _ ⟨y1, rfl⟩
    go_wp2_with fail
    go_ret
    refine ⟨rfl, Cls.of ?_⟩
    repeat first | with_reducible exact Below.refl _ _ | with_reducible refine Below.setCell ?_ (by first | omega | (simp; done) | (simp; omega)) _ | with_reducible refine Below.alloc ?_ (by first | omega | (simp; done) | (simp; omega)) _ | with_reducible refine Below.drew ?_ | with_reducible refine Ext.on _ ?_ (by first | omega | (simp; done) | (simp; omega))
  · have d1 : decide (1 ≤ d) = true := decide_eq_true h1
    have d2 : decide (d ≤ 100000000000000000) = true := decide_eq_true h2
    have d3 : decide (-100000000000000000 ≤ n) = true := decide_eq_true h3
    have d4 : decide (n ≤ 100000000000000000) = false := decide_eq_false h4
    clear h
    go_enter Try.func28, Try.ntmps28
    go_wp2_with fail
    refine wp_region_ext (by kernel_rfl) (by kernel_rfl) ?_
    repeat (go_big_quiet_step (fail))
    refine wpQuiet_nil ?_
    rintro _ ⟨y1, rfl⟩
    go_wp2_with fail
    go_ret
    refine ⟨rfl, Cls.of ?_⟩
    repeat first | with_reducible exact Below.refl _ _ | with_reducible refine Below.setCell ?_ (by first | omega | (simp; done) | (simp; omega)) _ | with_reducible refine Below.alloc ?_ (by first | omega | (simp; done) | (simp; omega)) _ | with_reducible refine Below.drew ?_ | with_reducible refine Ext.on _ ?_ (by first | omega | (simp; done) | (simp; omega))
theorem rngB_all {n d : Int} (h : rngB n d = true) : 1 ≤ d ∧ d ≤ 100000000000000000 ∧ -100000000000000000 ≤ n ∧ n ≤ 100000000000000000 := by
  unfold rngB at h
  simp at h
  omega
theorem rValid_calls (n d : Int) (w : World) :
    Calls Try.prog 28 #[.agg #[.int .i64 n, .int .i64 d]] w fun e w' => e = .returned (.bool (vaB n d)) ∧ Cls w w' := by
  cases h : rngB n d with
  | false =>
    have e : vaB n d = false := by simp [vaB, h]
    rw [e]; exact rValid_no n d w h
  | true =>
    have e : vaB n d = (Nat.gcd n.natAbs d.natAbs == 1) := by simp [vaB, h]
    obtain ⟨h1, h2, h3, h4⟩ := rngB_all h
    rw [e]; exact rValid_yes n d w h1 h2 h3 h4
end Go.Proofs.Ytogjollefllajaa
