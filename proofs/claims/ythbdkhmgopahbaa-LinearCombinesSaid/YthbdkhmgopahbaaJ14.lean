/-
  The program's sums of fractions: one more term. The program's sums of fractions: any term.
-/
import Derived.Test.YthbdkhmgopahbaaJ13
import Derived.Deep.CutBlock
import Derived.Deep.DeepCutAuto
set_option linter.unusedVariables false
namespace Go.Proofs.Ythbdkhmgopahbaa
open Go Go.RowKit Go.Deep
/-- A sum of the program: N / D in lowest terms. -/
def SumR (w : World) (N : Int) (D : Nat) (e : Ending) (w' : World) : Prop := ∃ (g : Bool) (s t : Sl), e = .returned (.agg #[.bool g, .slice s.a s.len s.cap, .slice t.a t.len t.cap]) ∧ IAt w' g s (frI N D) ∧ NatAt w' t (frd N D) ∧ Cls w w'
theorem cell_below {W X : World} (hb : Below W.heap.size W X) {b off : Nat} (h : b < W.heap.size) {v : Value} (hc : W.cell? ⟨b, off, none⟩ = some v) : X.cell? ⟨b, off, none⟩ = some v := (hb.cell (p := ⟨b, off, none⟩) h).trans hc
/-- A number in a new block, b. -/
def NewI (w0 : World) (N : Int) (p : Value) (wx : World) : Prop := ∃ (b : Nat) (gn : Bool) (sn : Sl), p = .pointer (some ⟨b, 0, none⟩) ∧ w0.heap.size ≤ b ∧ wx.heap[b]? = some (.cells #[.bool gn, .slice sn.a sn.len sn.cap] 58) ∧ IAt wx gn sn N ∧ Below w0.heap.size w0 wx
theorem NewI.late {w0 W : World} {N : Int} {gn : Bool} {sn : Sl} (hn : IAt W gn sn N) (hb : Below w0.heap.size w0 W) : NewI w0 N (.pointer (some ⟨W.heap.size, 0, none⟩)) (W.alloc (.cells #[.bool gn, .slice sn.a sn.len sn.cap] 58)) :=
  ⟨_, gn, sn, rfl, hb.size, heap_alloc_new W _, hn.later ((Below.refl _ _).alloc (Nat.le_refl _) _), hb.alloc hb.size _⟩
theorem NewI.early {w0 W : World} {N : Int} {gn x : Bool} {sn : Sl} {a : Option Addr} {n c b : Nat} (hT : W.heap[b]? = some (.cells #[.bool x, .slice a n c] 58)) (hbb : w0.heap.size ≤ b) (hn : IAt W gn sn N) (hb : Below w0.heap.size w0 W) : NewI w0 N (.pointer (some ⟨b, 0, none⟩)) ((W.setCell ⟨b, 0, none⟩ (.bool gn)).setCell ⟨b, 1, none⟩ (.slice sn.a sn.len sn.cap)) := by
  refine ⟨b, gn, sn, rfl, hbb, ?_, ⟨hn.1.store2 hT _ _, hn.2⟩, (hb.setCell hbb _).setCell hbb _⟩
  rw [heap_setCell_same _ _ _ _ _ _ (heap_setCell_same _ _ _ _ _ _ hT)]
  simp
theorem NewI.drew {w0 wx : World} {N : Int} {p : Value} (h : NewI w0 N p wx) : NewI w0 N p wx.drew := by
  obtain ⟨b, gn, sn, h1, h2, h3, h4, h5⟩ := h
  exact ⟨b, gn, sn, h1, h2, h3, h4, h5.drew⟩
theorem al_old (W : World) (o : Obj) {b off : Nat} (h : b < W.heap.size) : (W.alloc o).cell? ⟨b, off, none⟩ = W.cell? ⟨b, off, none⟩ := ((Below.refl W.heap.size W).alloc (Nat.le_refl _) o).cell (p := ⟨b, off, none⟩) h
theorem SumR.mk' {w W : World} {N P : Int} {D Q : Nat} {g : Bool} {s t : Sl} (hN : frI N D = P) (hD : frd N D = Q) (h : IAt W g s P) (h' : NatAt W t Q) (hc : Cls w W) : SumR w N D (.returned (.agg #[.bool g, .slice s.a s.len s.cap, .slice t.a t.len t.cap])) W := ⟨g, s, t, rfl, hN ▸ h, hD ▸ h', hc⟩
theorem SumR.old {w W : World} {N P : Int} {D Q : Nat} {g : Bool} {s t : Sl} (hN : frI N D = P) (hD : frd N D = Q) (h : IAt w g s P) (h' : NatAt w t Q) (hb : Below w.heap.size w W) : SumR w N D (.returned (.agg #[.bool g, .slice s.a s.len s.cap, .slice t.a t.len t.cap])) W := SumR.mk' hN hD (h.later hb) (h'.later hb) (Cls.of hb)
theorem three_n {W : World} {b : Nat} {a0 a1 a2 : Value} {t : TypeId} (h : W.heap[b]? = some (.cells #[a0, a1, a2] t)) :
    b < W.heap.size ∧ W.frozen? ⟨b, 0, none⟩ = false ∧ W.frozen? ⟨b, 1, none⟩ = false ∧ W.frozen? ⟨b, 2, none⟩ = false ∧ W.cell? ⟨b, 0, none⟩ = some a0 ∧ W.cell? ⟨b, 1, none⟩ = some a1 ∧ W.cell? ⟨b, 2, none⟩ = some a2 := three_b h
theorem NatAt.store3 {W : World} {s : Sl} {m T : Nat} {x : Bool} {a a' : Option Addr} {n c n' c' : Nat} {t : TypeId} (h : NatAt W s m) (hT : W.heap[T]? = some (.cells #[.bool x, .slice a n c, .slice a' n' c'] t)) (v0 v1 v2 : Value) : NatAt (((W.setCell ⟨T, 0, none⟩ v0).setCell ⟨T, 1, none⟩ v1).setCell ⟨T, 2, none⟩ v2) s m := by
  obtain ⟨h1, h2, h3, h4⟩ := h
  refine ⟨h1, h2, h3, ?_⟩
  rcases h4 with h4 | ⟨b, off, ha, hb, hc⟩
  · exact .inl h4
  · by_cases h0 : s.len = 0
    · exact .inl h0
    · refine .inr ⟨b, off, ha, by simpa using hb, fun i hi => ?_⟩
      have hne : b ≠ T := by
        rintro rfl
        have h5 := hc 0 (by omega)
        rw [cell_of_row _ _ _ _ _ _ hT, Nat.add_zero] at h5
        rcases off with _ | _ | _ | off <;> simp at h5
      rw [← hc i hi]
      refine World.cell?_of_block ?_
      rw [Below.heap_setCell _ _ _ _ hne, Below.heap_setCell _ _ _ _ hne, Below.heap_setCell _ _ _ _ hne]
set_option maxHeartbeats 4000000 in
set_option maxRecDepth 20000 in
theorem lsum_none1 (g : Bool) (a : Option Addr) (n c : Nat) (a' : Option Addr) (n' c' : Nat) (P : Int) (Q : Nat) (fn : Int) (fd : Nat) (w : World) (h : IAt w g ⟨a, n, c⟩ P) (h' : NatAt w ⟨a', n', c'⟩ Q) (hQ : 0 < Q) (hfd : 0 < fd) (hc : Nat.gcd P.natAbs Q = 1)  :
    Calls Try.prog 57 #[.agg #[.bool g, .slice a n c, .slice a' n' c'], .int .i64 0, .agg #[.int .i64 fn, .int .i64 fd]] w (SumR w (P * fd + 0 * fn * Q) (Q * fd)) := by
  obtain ⟨e1, e2⟩ := term_none (n := 0) (a := fn) hQ hfd hc (by left; rfl)
  have R := Lib.hid (fun (W : World) (hb : Below w.heap.size w W) => SumR.old e1 e2 h h' hb)
  clear h h' e1 e2 hc hQ
  generalize P * (fd : Int) + 0 * fn * Q = N at *
  generalize Q * fd = D at *
  skip
  go_enter Try.func57, Try.ntmps57
  go_wp2_with fail
  refine ret_ex rfl ⟨.agg #[.bool g, .slice a n c, .slice a' n' c'], by simp [results, Try.results57, go_sem], R.out _ ?_⟩
  repeat first | with_reducible exact Below.refl _ _ | with_reducible refine Below.setCell ?_ (by first | omega | (simp; done) | (simp; omega)) _ | with_reducible refine Below.alloc ?_ (by first | omega | (simp; done) | (simp; omega)) _ | with_reducible refine Below.drew ?_ | with_reducible refine Ext.on _ ?_ (by first | omega | (simp; done) | (simp; omega))
set_option maxHeartbeats 4000000 in
set_option maxRecDepth 20000 in
theorem lsum_none2 (g : Bool) (a : Option Addr) (n c : Nat) (a' : Option Addr) (n' c' : Nat) (P : Int) (Q : Nat) (k : Int) (fd : Nat) (w : World) (h : IAt w g ⟨a, n, c⟩ P) (h' : NatAt w ⟨a', n', c'⟩ Q) (hQ : 0 < Q) (hfd : 0 < fd) (hc : Nat.gcd P.natAbs Q = 1) (h0 : k ≠ 0) :
    Calls Try.prog 57 #[.agg #[.bool g, .slice a n c, .slice a' n' c'], .int .i64 k, .agg #[.int .i64 0, .int .i64 fd]] w (SumR w (P * fd + k * 0 * Q) (Q * fd)) := by
  obtain ⟨e1, e2⟩ := term_none (n := k) (a := 0) hQ hfd hc (by right; rfl)
  have R := Lib.hid (fun (W : World) (hb : Below w.heap.size w W) => SumR.old e1 e2 h h' hb)
  clear h h' e1 e2 hc hQ
  generalize P * (fd : Int) + k * 0 * Q = N at *
  generalize Q * fd = D at *
  have d1 : (k == 0) = false := by simpa using h0
  go_enter Try.func57, Try.ntmps57
  go_wp2_with fail
  refine ret_ex rfl ⟨.agg #[.bool g, .slice a n c, .slice a' n' c'], by simp [results, Try.results57, go_sem], R.out _ ?_⟩
  repeat first | with_reducible exact Below.refl _ _ | with_reducible refine Below.setCell ?_ (by first | omega | (simp; done) | (simp; omega)) _ | with_reducible refine Below.alloc ?_ (by first | omega | (simp; done) | (simp; omega)) _ | with_reducible refine Below.drew ?_ | with_reducible refine Ext.on _ ?_ (by first | omega | (simp; done) | (simp; omega))
theorem tdiv_ex {n x : Int} {o : Nat} (ho : 0 < o) (h : (o : Int) * x = n) : n.tdiv (o : Int) = x := by rw [← h]; exact Int.mul_tdiv_cancel_left _ (by omega)
theorem i64_idn {n : Nat} (h : n < 9223372036854775808) : IntKind.i64.wrap (n : Int) = (n : Int) := by rw [IntKind.wrap_i64]; omega
set_option maxHeartbeats 32000000 in
set_option maxRecDepth 20000 in
theorem lsum_main (g : Bool) (a : Option Addr) (n c : Nat) (a' : Option Addr) (n' c' : Nat) (P : Int) (Q : Nat) (k fn : Int) (fd : Nat) (w : World) (h : IAt w g ⟨a, n, c⟩ P) (h' : NatAt w ⟨a', n', c'⟩ Q) (hP : P.natAbs < wp 200) (hQw : Q < wp 200) (hk9 : k.natAbs < 9223372036854775808) (hfn : In64 fn) (hfd0 : fd < 9223372036854775808)
    (hk0 : k ≠ 0) (hf0 : fn ≠ 0) (cm b' sh l r d u : Nat) (k' num v : Int) (hb'0 : 0 < b') (hcm0 : 0 < cm) (hsh0 : 0 < sh) (hd0 : 0 < d) (hl0 : 0 < l)
    (q1 : Nat.gcd fd k.natAbs = cm) (q2 : (cm : Int) * k' = k) (q3 : cm * b' = fd) (q4 : Nat.gcd Q b' = sh) (q5 : sh * l = Q) (q6 : sh * r = b') (q7 : P * r + (l : Int) * k' * fn = num) (q8 : Nat.gcd num.natAbs sh = d) (q9 : (d : Int) * v = num) (q10 : d * u = b')
    (r1 : frI (P * fd + k * fn * Q) (Q * fd) = v) (r2 : frd (P * fd + k * fn * Q) (Q * fd) = l * u) :
    Calls Try.prog 57 #[.agg #[.bool g, .slice a n c, .slice a' n' c'], .int .i64 k, .agg #[.int .i64 fn, .int .i64 fd]] w (SumR w (P * fd + k * fn * Q) (Q * fd)) := by
  have R := Lib.hid (fun (W : World) (gg : Bool) (s t : Sl) (h : IAt W gg s v) (h' : NatAt W t (l * u)) (hc : Cls w W) => SumR.mk' r1 r2 h h' hc)
  have hk : In64 k := by unfold In64; omega
  have x1 : b' ≤ fd := by rw [← q3]; exact Nat.le_mul_of_pos_left _ hcm0
  have x2 : sh ≤ b' := by rw [← q4]; exact Nat.le_of_dvd hb'0 (Nat.gcd_dvd_right _ _)
  have x3 : r ≤ b' := by rw [← q6]; exact Nat.le_mul_of_pos_left _ hsh0
  have x4 : cm ≤ fd := by rw [← q3]; exact Nat.le_mul_of_pos_right _ hb'0
  have x5 : l ≤ Q := by rw [← q5]; exact Nat.le_mul_of_pos_left _ hsh0
  have x6 : u ≤ b' := by rw [← q10]; exact Nat.le_mul_of_pos_left _ hd0
  have x7 : k'.natAbs ≤ k.natAbs := by rw [← q2, Int.natAbs_mul, Int.natAbs_natCast]; exact Nat.le_mul_of_pos_left _ hcm0
  have x8 : d ≤ sh := by rw [← q8]; exact Nat.le_of_dvd hsh0 (Nat.gcd_dvd_right _ _)
  have x9 : In64 k' := by unfold In64; omega
  have x10 : k' ≠ 0 := by rintro rfl; rw [Int.mul_zero] at q2; exact hk0 q2.symm
  have x11 : In64 (r : Int) := by unfold In64; omega
  have z0 : l < wp 200 := wp_le x5 hQw
  have z1 : ((l : Int)).natAbs < wp 202 := wp_mono (by simpa using z0) (by omega)
  have z2 : ((l : Int) * k').natAbs < wp 202 := by
    rw [Int.natAbs_mul, Int.natAbs_natCast]
    exact wp_mono (wp_mul z0 (wp_one (by unfold In64 at hk; omega))) (by omega)
  have z3 : ((l : Int) * k' * fn).natAbs < wp 202 := by
    rw [Int.natAbs_mul, Int.natAbs_mul, Int.natAbs_natCast]
    exact wp_mul (wp_mul z0 (wp_one (by unfold In64 at hk; omega))) (wp_one (by unfold In64 at hfn; omega))
  have z4 : (P * (r : Int)).natAbs < wp 202 := by
    rw [Int.natAbs_mul, Int.natAbs_natCast]
    exact wp_mono (wp_mul hP (wp_one (by omega))) (by omega)
  have z5 : num.natAbs < wp 203 := by
    rw [← q7]
    exact wp_le (Int.natAbs_add_le _ _) (wp_add z4 z3)
  have z6 : (l : Int) * k' * fn ≠ 0 := by
    refine Int.mul_ne_zero (Int.mul_ne_zero (by omega) x10) hf0
  have hQ0 : 0 < Q := by rw [← q5]; exact Nat.mul_pos hsh0 hl0
  have el : Q / sh = l := by rw [← q5, Nat.mul_div_cancel_left _ hsh0]
  have C1 := Lib.hid (fun W => (lmagnitude_calls k W hk.1 hk.2).mono fun _ _ hh => And.intro hh.1 (Cls.same hh.2))
  have C2 := Lib.hid (fun W => ldivisor_calls fd k.natAbs W (by omega) (by unfold In64 at hk; omega))
  rw [q1] at C2
  have C3 := Lib.hid (fun (W : World) (hb : Below w.heap.size w W) => lshared_calls a' n' c' Q b' W (h'.later hb) (Nat.le_trans (h'.len hQw) (by omega)) hb'0 (by omega))
  rw [q4] at C3
  have C4 := Lib.hid (fun (W : World) (hb : Below w.heap.size w W) => lover_calls a' n' c' Q sh W (h'.later hb) (Nat.le_trans (h'.len hQw) (by omega)) hsh0 (by omega))
  rw [el] at C4
  have C5 := Lib.hid (fun (W : World) (hb : Below w.heap.size w W) => litimes2 g a n c P (r : Int) W (h.later hb) hP (by omega) x11)
  have C6 : Hid (∀ (W : World) (s : Sl), NatAt W s l → Calls Try.prog 90 #[.agg #[.bool false, .slice s.a s.len s.cap], .int .i64 k'] W (RInt W ((l : Int) * k'))) := Lib.hid fun W s hs => litimes2 false s.a s.len s.cap (l : Int) k' W ⟨by simpa using hs, SgOf.false_nat l⟩ z1 (by omega) x9
  have C7 : Hid (∀ (W : World) (gg : Bool) (s : Sl), IAt W gg s ((l : Int) * k') → Calls Try.prog 90 #[.agg #[.bool gg, .slice s.a s.len s.cap], .int .i64 fn] W (RInt W ((l : Int) * k' * fn))) := Lib.hid fun W gg s hs => litimes2 gg s.a s.len s.cap _ fn W hs z2 (by omega) hfn
  have C8 : Hid (∀ (W : World) (g1 : Bool) (s1 : Sl) (g2 : Bool) (s2 : Sl), IAt W g1 s1 (P * (r : Int)) → IAt W g2 s2 ((l : Int) * k' * fn) → Calls Try.prog 91 #[.agg #[.bool g1, .slice s1.a s1.len s1.cap], .agg #[.bool g2, .slice s2.a s2.len s2.cap]] W (RInt W num)) := Lib.hid fun W g1 s1 g2 s2 h1 h2 => by
    rw [← q7]; exact liplus2 g1 s1.a s1.len s1.cap g2 s2.a s2.len s2.cap _ _ W h1 h2 z4 z3 (by omega) z6
  have C9 : Hid (∀ (W : World) (s : Sl), NatAt W s num.natAbs → Calls Try.prog 88 #[.slice s.a s.len s.cap, .int .u64 sh] W fun e w' => e = .returned (.int .u64 (d : Int)) ∧ Cls W w') := Lib.hid fun W s hs => by
    rw [← q8]; exact lshared_calls s.a s.len s.cap num.natAbs sh W hs (Nat.le_trans (hs.len z5) (by omega)) hsh0 (by omega)
  have C10 : Hid (∀ (W : World) (gg : Bool) (s : Sl), IAt W gg s num → Calls Try.prog 92 #[.agg #[.bool gg, .slice s.a s.len s.cap], .int .u64 d] W (RInt W v)) := Lib.hid fun W gg s hs => liover2 gg s.a s.len s.cap num d W hs z5 (by omega) hd0 (by omega) v q9
  have C11 : Hid (∀ (W : World) (s : Sl), NatAt W s l → Calls Try.prog 93 #[.slice s.a s.len s.cap, .int .u64 u] W fun e w' => ∃ s : Sl, e = .returned (.slice s.a s.len s.cap) ∧ NatAt w' s (l * u) ∧ Cls W w') := Lib.hid fun W s hs => ltimes_calls s.a s.len s.cap l u W hs (Nat.le_trans (hs.len z0) (by omega)) (by omega)
  have d1 : (k == 0) = false := by simpa using hk0
  have d2 : (fn == 0) = false := by simpa using hf0
  have n1 : ¬ (cm : Int) = 0 := by omega
  have n1' : ¬ cm = 0 := by omega
  have n2 : ¬ (sh : Int) = 0 := by omega
  have n2' : ¬ sh = 0 := by omega
  have n3 : ¬ (d : Int) = 0 := by omega
  have n3' : ¬ d = 0 := by omega
  have t1 : k.tdiv (cm : Int) = k' := tdiv_ex hcm0 q2
  have t2 : (fd : Int).tdiv (cm : Int) = (b' : Int) := tdiv_ex hcm0 (by rw [← q3, Int.natCast_mul])
  have t3 : (b' : Int).tdiv (sh : Int) = (r : Int) := tdiv_ex hsh0 (by rw [← q6, Int.natCast_mul])
  have t4 : (b' : Int).tdiv (d : Int) = (u : Int) := tdiv_ex hd0 (by rw [← q10, Int.natCast_mul])
  have w1 : IntKind.u64.wrap (fd : Int) = (fd : Int) := u64_id (by omega)
  have w2 : IntKind.i64.wrap (cm : Int) = (cm : Int) := i64_idn (by omega)
  have w3 : IntKind.i64.wrap k' = k' := by unfold In64 at x9; rw [IntKind.wrap_i64]; omega
  have w4 : IntKind.u64.wrap (b' : Int) = (b' : Int) := u64_id (by omega)
  have w5 : IntKind.u64.wrap (r : Int) = (r : Int) := u64_id (by omega)
  have w6 : IntKind.i64.wrap (r : Int) = (r : Int) := i64_idn (by omega)
  have w7 : IntKind.u64.wrap (u : Int) = (u : Int) := u64_id (by omega)
  clear x1 x2 x3 x4 x5 x6 x7 x8 x9 x10 x11 z0 z1 z2 z3 z4 z5 z6 q1 q2 q3 q4 q5 q6 q7 q8 q9 q10 r1 r2 hQ0 el h h' hP hQw hk hk9 hfn hfd0 hk0 hf0 hb'0 hcm0 hsh0 hd0 hl0
  generalize P * (fd : Int) + k * fn * Q = NN at *
  generalize Q * fd = DD at *
  generalize Q % sh = rem at *
  generalize hkn : k.natAbs = kn at *
  clear hkn
  generalize (l : Int) * k' * fn = X3 at *
  generalize (l : Int) * k' = X2 at *
  generalize P * (r : Int) = X1 at *
  go_enter Try.func57, Try.ntmps57
  go_wp2_with fail
  refine wp_region_ext (by kernel_rfl) (by kernel_rfl) ?_
  repeat (go_big_quiet_step (first | (go_at_call 87; with_reducible exact Cls.call (C1.out _)) | (go_at_call 86; with_reducible exact Cls.call (C2.out _))))
  refine wpQuiet_nil ?_
  rintro _ ⟨y1, rfl⟩
  have y1s := y1.size
  (try simp at y1s)
  have y1a : w.heap.size < y1.val.heap.size := (by omega)
  have y1b : w.heap.size + 1 < y1.val.heap.size := (by omega)
  have y1c : w.heap.size + 1 + 1 < y1.val.heap.size := (by omega)
  go_wp2_with fail
  refine wp_region_on (by kernel_rfl) (by kernel_rfl) ?_
  repeat (go_big_quiet_step (fail))
  refine wpQuiet_nil ?_
  rintro _ ⟨y2, rfl⟩
  clear y1s y1a y1b y1c y1
  have y2s := y2.size
  (try simp at y2s)
  have y2a : w.heap.size < y2.val.heap.size := (by omega)
  have y2b : w.heap.size + 1 < y2.val.heap.size := (by omega)
  have y2c : w.heap.size + 1 + 1 < y2.val.heap.size := (by omega)
  go_wp2_with (first | (go_at_call 88; (with_reducible refine Calls.mono (C3.out _ ?_) ?_); (focus (repeat first | with_reducible exact Below.refl _ _ | with_reducible refine Below.setCell ?_ (by first | omega | (simp; done) | (simp; omega)) _ | with_reducible refine Below.alloc ?_ (by first | omega | (simp; done) | (simp; omega)) _ | with_reducible refine Below.drew ?_ | with_reducible refine Ext.on _ ?_ (by first | omega | (simp; done) | (simp; omega)))); rintro e _ ⟨rfl, ⟨y3, rfl⟩⟩; have y3s := y3.size; (try simp at y3s); have y3a : w.heap.size < y3.val.heap.size := (by omega); have y3b : w.heap.size + 1 < y3.val.heap.size := (by omega); have y3c : w.heap.size + 1 + 1 < y3.val.heap.size := (by omega)) | (go_at_call 89; (with_reducible refine Calls.mono (C4.out _ ?_) ?_); (focus (repeat first | with_reducible exact Below.refl _ _ | with_reducible refine Below.setCell ?_ (by first | omega | (simp; done) | (simp; omega)) _ | with_reducible refine Below.alloc ?_ (by first | omega | (simp; done) | (simp; omega)) _ | with_reducible refine Below.drew ?_ | with_reducible refine Ext.on _ ?_ (by first | omega | (simp; done) | (simp; omega)))); rintro e _ ⟨sr, rfl, hsr, ⟨y4, rfl⟩⟩; have y4s := y4.size; (try simp at y4s); have y4a : w.heap.size < y4.val.heap.size := (by omega); have y4b : w.heap.size + 1 < y4.val.heap.size := (by omega); have y4c : w.heap.size + 1 + 1 < y4.val.heap.size := (by omega)))
  have B0 := (y4.below.block (w.heap.size) (by omega)).trans ((y3.below.block (w.heap.size) (by omega)).trans ((y2.below.block (w.heap.size) (by simp; omega)).trans (new3_0 w _ _ _)))
  have B1 := (y4.below.block (w.heap.size + 1) (by omega)).trans ((y3.below.block (w.heap.size + 1) (by omega)).trans ((y2.below.block (w.heap.size + 1) (by simp)).trans (new3_1 w _ _ _)))
  have T4 := Lib.hid ((y4.below.block (w.heap.size + 1 + 1) (by omega)).trans ((y3.below.block (w.heap.size + 1 + 1) (by omega)).trans ((y2.below.block (w.heap.size + 1 + 1) (by simp)).trans (new_at2 w _ _ _ _))))
  obtain ⟨_, _, _, _, c0, c1, _⟩ := three_n B0
  obtain ⟨_, _, _, c2, _⟩ := two_b B1
  have HSR := Lib.hid hsr
  have T4' := Lib.hid t4
  have W7' := Lib.hid w7
  clear B0 B1 hsr t1 t2 t4 w1 w2 w3 w7 C1 C2 C3 C4
  have hB4 : Hid (Below w.heap.size w y4.val) := Lib.hid (by repeat first | with_reducible exact Below.refl _ _ | with_reducible refine Below.setCell ?_ (by first | omega | (simp; done) | (simp; omega)) _ | with_reducible refine Below.alloc ?_ (by first | omega | (simp; done) | (simp; omega)) _ | with_reducible refine Below.drew ?_ | with_reducible refine Ext.on _ ?_ (by first | omega | (simp; done) | (simp; omega)))
  go_cut [12] (fun s12 wx => NewI y4.val num s12 wx)
  case first =>
   go_region_held3 (fun w' => w'.cell? ⟨w.heap.size, 0, none⟩ = some (.bool g) ∧ w'.cell? ⟨w.heap.size, 1, none⟩ = some (.slice a n c) ∧ w'.cell? ⟨w.heap.size + 1, 0, none⟩ = some (.int .i64 fn))
    (first | (go_keep; done) | (refine ⟨cell_below (W := y4.val) ?_ (by omega) c0, cell_below (W := y4.val) ?_ (by omega) c1, cell_below (W := y4.val) ?_ (by omega) c2⟩ <;> ((repeat first | with_reducible exact Below.refl _ _ | with_reducible refine Below.setCell ?_ (by first | omega | (simp; done) | (simp; omega)) _ | with_reducible refine Below.alloc ?_ (by first | omega | (simp; done) | (simp; omega)) _ | with_reducible refine Below.drew ?_ | with_reducible refine Ext.on _ ?_ (by first | omega | (simp; done) | (simp; omega))); done)))
    (first
      | (go_at_call 90; (with_reducible refine Calls.mono (C5.out _ ?_) ?_); (focus (repeat first | with_reducible exact hB4.out | with_reducible refine Below.alloc ?_ (by first | omega | (simp; omega)) _ | with_reducible refine Below.drew ?_ | with_reducible refine Ext.on _ ?_ (by omega))); rintro e _ ⟨g1, s1, rfl, h1, ⟨y5, rfl⟩⟩; have y5s := y5.size; (try simp at y5s); have y5a : w.heap.size < y5.val.heap.size := (by omega); have y5b : w.heap.size + 1 < y5.val.heap.size := (by omega); have y5c : w.heap.size + 1 + 1 < y5.val.heap.size := (by omega))
      | (go_at_call 90; have G := Lib.hid (fun W hb1 => C6.out W sr (HSR.out.later hb1)); (with_reducible refine Calls.mono (G.out _ ?_) ?_); (focus (repeat first | with_reducible exact Below.refl _ _ | with_reducible refine Below.setCell ?_ (by first | omega | (simp; done) | (simp; omega)) _ | with_reducible refine Below.alloc ?_ (by first | omega | (simp; done) | (simp; omega)) _ | with_reducible refine Below.drew ?_ | with_reducible refine Ext.on _ ?_ (by first | omega | (simp; done) | (simp; omega)))); rintro e _ ⟨g2, s2, rfl, h2, ⟨y6, rfl⟩⟩; have y6s := y6.size; (try simp at y6s); have y6a : w.heap.size < y6.val.heap.size := (by omega); have y6b : w.heap.size + 1 < y6.val.heap.size := (by omega); have y6c : w.heap.size + 1 + 1 < y6.val.heap.size := (by omega); clear G)
      | (go_at_call 90; have G := Lib.hid (fun W hb1 => C7.out W g2 s2 (h2.later hb1)); (with_reducible refine Calls.mono (G.out _ ?_) ?_); (focus (repeat first | with_reducible exact Below.refl _ _ | with_reducible refine Below.setCell ?_ (by first | omega | (simp; done) | (simp; omega)) _ | with_reducible refine Below.alloc ?_ (by first | omega | (simp; done) | (simp; omega)) _ | with_reducible refine Below.drew ?_ | with_reducible refine Ext.on _ ?_ (by first | omega | (simp; done) | (simp; omega)))); rintro e _ ⟨g3, s3, rfl, h3, ⟨y7, rfl⟩⟩; have y7s := y7.size; (try simp at y7s); have y7a : w.heap.size < y7.val.heap.size := (by omega); have y7b : w.heap.size + 1 < y7.val.heap.size := (by omega); have y7c : w.heap.size + 1 + 1 < y7.val.heap.size := (by omega); clear G)
      | (go_at_call 91; have G := Lib.hid (fun W hb1 hb2 => C8.out W g1 s1 g3 s3 (h1.later hb1) (h3.later hb2)); (with_reducible refine Calls.mono (G.out _ ?_ ?_) ?_); (focus (repeat first | with_reducible exact Below.refl _ _ | with_reducible refine Below.setCell ?_ (by first | omega | (simp; done) | (simp; omega)) _ | with_reducible refine Below.alloc ?_ (by first | omega | (simp; done) | (simp; omega)) _ | with_reducible refine Below.drew ?_ | with_reducible refine Ext.on _ ?_ (by first | omega | (simp; done) | (simp; omega)))); (focus (repeat first | with_reducible exact Below.refl _ _ | with_reducible refine Below.setCell ?_ (by first | omega | (simp; done) | (simp; omega)) _ | with_reducible refine Below.alloc ?_ (by first | omega | (simp; done) | (simp; omega)) _ | with_reducible refine Below.drew ?_ | with_reducible refine Ext.on _ ?_ (by first | omega | (simp; done) | (simp; omega)))); rintro e _ ⟨gn, sn, rfl, hn, ⟨y8, rfl⟩⟩; have y8s := y8.size; (try simp at y8s); have y8a : w.heap.size < y8.val.heap.size := (by omega); have y8b : w.heap.size + 1 < y8.val.heap.size := (by omega); have y8c : w.heap.size + 1 + 1 < y8.val.heap.size := (by omega); clear G; (first | (have HTI := Lib.hid ((y8.below.block y7.val.heap.size (by simp)).trans (heap_alloc_new y7.val _)); obtain ⟨m0, m1, m2, m3, m4⟩ := two_b HTI.out) | (have HTI := Lib.hid ((y8.below.block y6.val.heap.size (by omega)).trans ((y7.below.block y6.val.heap.size (by simp)).trans (heap_alloc_new y6.val _))); obtain ⟨m0, m1, m2, m3, m4⟩ := two_b HTI.out) | (have HTI := Lib.hid ((y8.below.block y5.val.heap.size (by omega)).trans ((y7.below.block y5.val.heap.size (by omega)).trans ((y6.below.block y5.val.heap.size (by simp)).trans (heap_alloc_new y5.val _)))); obtain ⟨m0, m1, m2, m3, m4⟩ := two_b HTI.out) | (have HTI := Lib.hid ((y8.below.block y4.val.heap.size (by omega)).trans ((y7.below.block y4.val.heap.size (by omega)).trans ((y6.below.block y4.val.heap.size (by omega)).trans ((y5.below.block y4.val.heap.size (by simp)).trans (heap_alloc_new y4.val.drew _))))); obtain ⟨m0, m1, m2, m3, m4⟩ := two_b HTI.out) | skip)))
   all_goals
    go_wp2_with fail
    go_meet
    case rel =>
      have hbz : Below y4.val.heap.size y4.val y8.val := (by repeat first | with_reducible exact Below.refl _ _ | with_reducible refine Below.setCell ?_ (by first | omega | (simp; done) | (simp; omega)) _ | with_reducible refine Below.alloc ?_ (by first | omega | (simp; done) | (simp; omega)) _ | with_reducible refine Below.drew ?_ | with_reducible refine Ext.on _ ?_ (by first | omega | (simp; done) | (simp; omega)))
      first
        | exact NewI.late hn hbz
        | exact (NewI.late hn hbz).drew
        | exact NewI.early HTI.out (by omega) hn hbz
        | exact (NewI.early HTI.out (by omega) hn hbz).drew
  case rest =>
    obtain ⟨b, gn, sn, rfl, hbb, hT, hn, hB⟩ := hcut
    have hBs := hB.size
    have hbw : b < wc.heap.size := (two_b hT).1
    have wca : w.heap.size < wc.heap.size := by omega
    have wcc : w.heap.size + 1 + 1 < wc.heap.size := by omega
    have TC := Lib.hid ((hB.block (w.heap.size + 1 + 1) (by omega)).trans T4.out)
    have HN := Lib.hid hn
    have HTN := Lib.hid hT
    have HSW := Lib.hid (HSR.out.later hB)
    have hBW : Hid (Below w.heap.size w wc) := Lib.hid (hB4.out.trans (hB.mono (by omega)))
    obtain ⟨_, f0, f1, e0, e1⟩ := two_b hT
    clear c0 c1 c2 T4 HSR hT hn hB hB4 C5 C6 C7 C8 hBs
    have t4 := T4'.out
    have w7 := W7'.out
    clear t3 w5 w6
    go_wp2_with (go_at_call 88; have G := Lib.hid (fun W hb1 => C9.out W sn (HN.out.1.later hb1)); (with_reducible refine Calls.mono (G.out _ ?_) ?_); (focus (repeat first | with_reducible exact Below.refl _ _ | with_reducible refine Below.setCell ?_ (by first | omega | (simp; done) | (simp; omega)) _ | with_reducible refine Below.alloc ?_ (by first | omega | (simp; done) | (simp; omega)) _ | with_reducible refine Below.drew ?_ | with_reducible refine Ext.on _ ?_ (by first | omega | (simp; done) | (simp; omega)))); rintro e _ ⟨rfl, ⟨y9, rfl⟩⟩; have y9s := y9.size; (try simp at y9s); have y9a : w.heap.size < y9.val.heap.size := (by omega); have y9b : b < y9.val.heap.size := (by omega); have y9c : w.heap.size + 1 + 1 < y9.val.heap.size := (by omega); clear G; obtain ⟨_, f0, f1, e0, e1⟩ := two_b ((y9.below.block b hbw).trans HTN.out))
    go_region_held3 (fun w' => w'.cell? ⟨b, 0, none⟩ = some (.bool gn) ∧ w'.cell? ⟨b, 1, none⟩ = some (.slice sn.a sn.len sn.cap))
      (first | (go_keep; done) | (refine ⟨cell_below (W := y9.val) ?_ y9b e0, cell_below (W := y9.val) ?_ y9b e1⟩ <;> ((repeat first | with_reducible exact Below.refl _ _ | with_reducible refine Below.setCell ?_ (by first | omega | (simp; done) | (simp; omega)) _ | with_reducible refine Below.alloc ?_ (by first | omega | (simp; done) | (simp; omega)) _ | with_reducible refine Below.drew ?_ | with_reducible refine Ext.on _ ?_ (by first | omega | (simp; done) | (simp; omega))); done)) | (refine ⟨?_, ?_⟩ <;> (refine (cell_after3 _ _ _ _ _ _ ?_).trans ?_; (focus (dsimp only; omega)); (refine cell_below (W := y9.val) ?_ y9b (by assumption)); (repeat first | with_reducible exact Below.refl _ _ | with_reducible refine Below.setCell ?_ (by first | omega | (simp; done) | (simp; omega)) _ | with_reducible refine Below.alloc ?_ (by first | omega | (simp; done) | (simp; omega)) _ | with_reducible refine Below.drew ?_ | with_reducible refine Ext.on _ ?_ (by first | omega | (simp; done) | (simp; omega))); done)))
      (first
        | (go_at_call 92; have G := Lib.hid (fun W hb1 => C10.out W gn sn (HN.out.later hb1)); (with_reducible refine Calls.mono (G.out _ ?_) ?_); (focus (repeat first | with_reducible exact Below.refl _ _ | with_reducible refine Below.setCell ?_ (by first | omega | (simp; done) | (simp; omega)) _ | with_reducible refine Below.alloc ?_ (by first | omega | (simp; done) | (simp; omega)) _ | with_reducible refine Below.drew ?_ | with_reducible refine Ext.on _ ?_ (by first | omega | (simp; done) | (simp; omega)))); rintro e _ ⟨gv, sv, rfl, hv, ⟨y10, rfl⟩⟩; have y10s := y10.size; (try simp at y10s); have y10a : w.heap.size < y10.val.heap.size := (by omega); have y10b : b < y10.val.heap.size := (by omega); have y10c : w.heap.size + 1 + 1 < y10.val.heap.size := (by omega); clear G)
        | (go_at_call 93; have G := Lib.hid (fun W hb1 => C11.out W sr (HSW.out.later hb1)); (with_reducible refine Calls.mono (G.out _ ?_) ?_); (focus (repeat first | with_reducible exact Below.refl _ _ | with_reducible refine Below.setCell ?_ (by first | omega | (simp; done) | (simp; omega)) _ | with_reducible refine Below.alloc ?_ (by first | omega | (simp; done) | (simp; omega)) _ | with_reducible refine Below.drew ?_ | with_reducible refine Ext.on _ ?_ (by first | omega | (simp; done) | (simp; omega)))); rintro e _ ⟨st, rfl, hst, ⟨y11, rfl⟩⟩; have y11s := y11.size; (try simp at y11s); have y11a : w.heap.size < y11.val.heap.size := (by omega); have y11b : b < y11.val.heap.size := (by omega); have y11c : w.heap.size + 1 + 1 < y11.val.heap.size := (by omega); clear G; have HT := Lib.hid ((y11.below.block (w.heap.size + 1 + 1) (by first | omega | (simp; omega))).trans ((y10.below.block (w.heap.size + 1 + 1) (by first | omega | (simp; omega))).trans ((y9.below.block (w.heap.size + 1 + 1) (by omega)).trans TC.out))); obtain ⟨m0, m1, m2, m3, m4, m5, m6⟩ := three_n HT.out))
    all_goals
      have HB0 : Below w.heap.size w y11.val := by
        have q0 := hBW.out
        repeat first | with_reducible exact q0 | with_reducible refine Below.drew ?_ | with_reducible refine Ext.on _ ?_ (by first | omega | (simp; omega))
      have hv11 : IAt y11.val gv sv v := hv.later (by repeat first | with_reducible exact Below.refl _ _ | with_reducible refine Below.setCell ?_ (by first | omega | (simp; done) | (simp; omega)) _ | with_reducible refine Below.alloc ?_ (by first | omega | (simp; done) | (simp; omega)) _ | with_reducible refine Below.drew ?_ | with_reducible refine Ext.on _ ?_ (by first | omega | (simp; done) | (simp; omega)))
      go_wp2
      refine ret_ex rfl ⟨.agg #[.bool gv, .slice sv.a sv.len sv.cap, .slice st.a st.len st.cap], by simp [results, Try.results57, go_sem, m4, m5, m6], R.out _ gv sv st ⟨NatAt.store3 hv11.1 HT.out _ _ _, hv11.2⟩ (NatAt.store3 hst HT.out _ _ _) (Cls.of (below3 HB0 (by omega) _ _ _))⟩
end Go.Proofs.Ythbdkhmgopahbaa
set_option linter.unusedVariables false
namespace Go.Proofs.Ythbdkhmgopahbaa
open Go Go.RowKit Go.Deep
theorem lsum_calls (g : Bool) (a : Option Addr) (n c : Nat) (a' : Option Addr) (n' c' : Nat) (P : Int) (Q : Nat) (k fn : Int) (fd : Nat) (w : World) (h : IAt w g ⟨a, n, c⟩ P) (h' : NatAt w ⟨a', n', c'⟩ Q) (hQ : 0 < Q) (hc : Nat.gcd P.natAbs Q = 1) (hP : P.natAbs < wp 200) (hQw : Q < wp 200) (hk : k.natAbs < 9223372036854775808) (hf : vaB fn fd = true) :
    Calls Try.prog 57 #[.agg #[.bool g, .slice a n c, .slice a' n' c'], .int .i64 k, .agg #[.int .i64 fn, .int .i64 fd]] w (SumR w (P * fd + k * fn * Q) (Q * fd)) := by
  obtain ⟨f1, f2, f3, f4⟩ := vaB_rng hf
  have hfd : 0 < fd := by omega
  have hco : Nat.gcd fn.natAbs fd = 1 := by
    have h := hf
    unfold vaB at h
    simp only [Bool.and_eq_true, beq_iff_eq, Int.natAbs_natCast] at h
    exact h.2
  by_cases hk0 : k = 0
  · subst hk0
    exact lsum_none1 g a n c a' n' c' P Q fn fd w h h' hQ hfd hc
  by_cases hf0 : fn = 0
  · subst hf0
    exact lsum_none2 g a n c a' n' c' P Q k fd w h h' hQ hfd hc hk0
  have a1 : 0 < Nat.gcd fd k.natAbs := Nat.gcd_pos_of_pos_left _ hfd
  have a2 : Nat.gcd fd k.natAbs * (fd / Nat.gcd fd k.natAbs) = fd := Nat.mul_div_cancel' (Nat.gcd_dvd_left _ _)
  have a3 : ((Nat.gcd fd k.natAbs : Nat) : Int) * (k / ((Nat.gcd fd k.natAbs : Nat) : Int)) = k := Int.mul_ediv_cancel' (natCast_dvd'.2 (Nat.gcd_dvd_right _ _))
  generalize hcm : Nat.gcd fd k.natAbs = cm at *
  generalize fd / cm = b' at *
  generalize k / (cm : Int) = k' at *
  have b0 : 0 < b' := by
    rcases Nat.eq_zero_or_pos b' with h0 | h0
    · rw [h0, Nat.mul_zero] at a2; omega
    · exact h0
  have a4 : 0 < Nat.gcd Q b' := Nat.gcd_pos_of_pos_left _ hQ
  have a5 : Nat.gcd Q b' * (Q / Nat.gcd Q b') = Q := Nat.mul_div_cancel' (Nat.gcd_dvd_left _ _)
  have a6 : Nat.gcd Q b' * (b' / Nat.gcd Q b') = b' := Nat.mul_div_cancel' (Nat.gcd_dvd_right _ _)
  generalize hsh : Nat.gcd Q b' = sh at *
  generalize Q / sh = l at *
  generalize b' / sh = r at *
  have l0 : 0 < l := by
    rcases Nat.eq_zero_or_pos l with h0 | h0
    · rw [h0, Nat.mul_zero] at a5; omega
    · exact h0
  obtain ⟨num, hnum⟩ : ∃ num, P * r + (l : Int) * k' * fn = num := ⟨_, rfl⟩
  have a7 : 0 < Nat.gcd num.natAbs sh := Nat.gcd_pos_of_pos_right _ a4
  have a8 : ((Nat.gcd num.natAbs sh : Nat) : Int) * (num / ((Nat.gcd num.natAbs sh : Nat) : Int)) = num := Int.mul_ediv_cancel' (natCast_dvd'.2 (Nat.gcd_dvd_left _ _))
  have a9 : Nat.gcd num.natAbs sh * (b' / Nat.gcd num.natAbs sh) = b' := Nat.mul_div_cancel' (Nat.dvd_trans (Nat.gcd_dvd_right _ _) ⟨r, a6.symm⟩)
  generalize hd : Nat.gcd num.natAbs sh = d at *
  generalize num / (d : Int) = v at *
  generalize b' / d = u at *
  have e := term_lowest hQ hfd hc hco hcm.symm a3 a2 hsh.symm a5 a6 (by rw [← hnum]; congr 1; ac_rfl) hd.symm a8 a9
  exact lsum_main g a n c a' n' c' P Q k fn fd w h h' hP hQw hk (by unfold In64; omega) (by omega) hk0 hf0 cm b' sh l r d u k' num v b0 a1 a4 a7 l0 hcm a3 a2 hsh a5 a6 hnum hd a8 a9 e.1 e.2
/-- The sum of the numbers times the fractions, over the product of the denominators. -/
def totN (ns fn : Nat → Int) (fd : Nat → Nat) : Nat → Int
  | 0 => 0
  | k + 1 => totN ns fn fd k * fd k + ns k * fn k * (totD fd k : Int)
where totD (fd : Nat → Nat) : Nat → Nat
  | 0 => 1
  | k + 1 => totD fd k * fd k
abbrev totD := totN.totD
theorem totD_pos {fd : Nat → Nat} : ∀ (k : Nat), (∀ i, i < k → 0 < fd i) → 0 < totD fd k
  | 0, _ => Nat.one_pos
  | k + 1, h => Nat.mul_pos (totD_pos k fun i hi => h i (by omega)) (h k (by omega))
theorem totD_lt {fd : Nat → Nat} : ∀ (k : Nat), (∀ i, i < k → fd i < 18446744073709551616) → totD fd k < wp (k + 1)
  | 0, _ => by show 1 < wp 1; unfold wp; omega
  | k + 1, h => wp_mul (j := k + 1) (totD_lt k fun i hi => h i (by omega)) (wp_one (h k (by omega)))
theorem totN_lt {ns fn : Nat → Int} {fd : Nat → Nat} : ∀ (k : Nat), (∀ i, i < k → fd i < 18446744073709551616 ∧ (ns i).natAbs < 18446744073709551616 ∧ (fn i).natAbs < 18446744073709551616) → (totN ns fn fd k).natAbs < wp (2 * k + 2)
  | 0, _ => by show 0 < wp 2; exact wp_pos _
  | k + 1, h => by
    have h1 := totN_lt k fun i hi => h i (by omega)
    have h2 := totD_lt k fun i hi => (h i (by omega)).1
    obtain ⟨b1, b2, b3⟩ := h k (by omega)
    have e1 : (totN ns fn fd k * (fd k : Int)).natAbs < wp (2 * k + 3) := by
      rw [Int.natAbs_mul, Int.natAbs_natCast]; exact wp_mono (wp_mul h1 (wp_one b1)) (by omega)
    have e2 : (ns k * fn k * (totD fd k : Int)).natAbs < wp (2 * k + 3) := by
      rw [Int.natAbs_mul, Int.natAbs_mul, Int.natAbs_natCast]
      exact wp_mono (wp_mul (wp_mul (wp_one b2) (wp_one b3)) h2) (by omega)
    exact wp_le (Int.natAbs_add_le _ _) (wp_add e1 e2)
/-- One step of a sum in lowest terms. -/
theorem fr_step (N : Int) {D : Nat} (hD : 0 < D) (n a : Int) {b : Nat} (hb : 0 < b) :
    frI (frI N D * b + n * a * (frd N D : Int)) (frd N D * b) = frI (N * b + n * a * D) (D * b) ∧ frd (frI N D * b + n * a * (frd N D : Int)) (frd N D * b) = frd (N * b + n * a * D) (D * b) := by
  have h1 := frI_mul N D
  have h2 := frd_mul N D
  have hg := gcd_pos_right (a := N.natAbs) hD
  have h4 := frd_pos N hD
  generalize frI N D = v at *
  generalize frd N D = d at *
  generalize Nat.gcd N.natAbs D = c at *
  have hs := fr_scale hg (v * b + n * a * d) (Nat.mul_pos h4 hb)
  have e1 : (c : Int) * (v * b + n * a * d) = N * b + n * a * D := by
    rw [Int.mul_add, ← h1, ← h2, Int.natCast_mul]
    congr 1 <;> ac_rfl
  have e2 : c * (d * b) = D * b := by rw [← h2]; ac_rfl
  rw [e1, e2] at hs
  exact ⟨hs.1.symm, hs.2.symm⟩
theorem frI_lt {N : Int} {D k : Nat} (h : N.natAbs < wp k) : (frI N D).natAbs < wp k := by
  rw [frI_abs]; exact wp_le (Nat.div_le_self _ _) h
theorem frd_lt {N : Int} {D k : Nat} (h : D < wp k) : frd N D < wp k := wp_le (Nat.div_le_self _ _) h
end Go.Proofs.Ythbdkhmgopahbaa
