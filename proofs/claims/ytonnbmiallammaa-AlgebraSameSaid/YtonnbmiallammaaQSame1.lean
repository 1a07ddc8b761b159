/-
  When two lists are equal: numbers, values, rows, aggregates, expressions, as the program and the reference compare them.
-/
import Derived.Test.YtonnbmiallammaaQuery
import Derived.Test.YtonnbmiallammaaSame
set_option linter.unusedVariables false
namespace Go.Proofs.Ytonnbmiallammaa
open Go Go.RowKit Go.Deep
/-- All of them, from j on, m of them. -/
def allQ (p : Nat → Bool) : Nat → Nat → Bool
  | _, 0 => true
  | j, m + 1 => if p j = true then allQ p (j + 1) m else false
theorem allQ_stop {p : Nat → Bool} {j m : Nat} (h : p j = false) : allQ p j (m + 1) = false := by rw [allQ, if_neg (by rw [h]; exact Bool.false_ne_true)]
theorem allQ_go {p : Nat → Bool} {j m : Nat} (h : p j = true) : allQ p j (m + 1) = allQ p (j + 1) m := by rw [allQ, if_pos h]
theorem allQ_all {p : Nat → Bool} : ∀ (m j : Nat), (∀ i, j ≤ i → i < j + m → p i = true) → allQ p j m = true
  | 0, _, _ => rfl
  | m + 1, j, h => by rw [allQ_go (h j (by omega) (by omega))]; exact allQ_all m (j + 1) fun i h1 h2 => h i (by omega) (by omega)
theorem allQ_at {p : Nat → Bool} : ∀ (m j : Nat), allQ p j m = true → ∀ i, j ≤ i → i < j + m → p i = true
  | 0, _, _, i, h1, h2 => by omega
  | m + 1, j, h, i, h1, h2 => by
    cases hp : p j with
    | false => rw [allQ_stop hp] at h; cases h
    | true =>
      rw [allQ_go hp] at h
      rcases Nat.eq_or_lt_of_le h1 with e | e
      · rw [← e]; exact hp
      · exact allQ_at m (j + 1) h i e (by omega)
/-- As many, and all of them. -/
def lenAll (n n' : Nat) (p : Nat → Bool) : Bool := if n = n' then allQ p 0 n else false
def sameV (v v' : Vl) : Bool := decide (v.k = v'.k) && decide (v.n = v'.n) && decide (v.s.toList = v'.s.toList)
def sameG (g g' : Ag) : Bool := decide (g.fn = g'.fn) && sameE g.arg g'.arg
set_option maxHeartbeats 4000000 in
set_option maxRecDepth 20000 in
theorem eqInts_calls (s s' : Sl) (f f' : Nat → Int) (w : World) (h : SlAt w 1 s (intC f)) (h' : SlAt w 1 s' (intC f')) :
    Calls Try.prog 35 #[.slice s.a s.len s.cap, .slice s'.a s'.len s'.cap] w fun r w' => r = .returned (.bool (lenAll s.len s'.len (fun i => f i == f' i))) ∧ Cls w w' := by
  have hle := h.1
  have hmax := h.2.1
  have hle' := h'.1
  have hmax' := h'.2.1
  unfold maxLen at hmax hmax'
  have H := Lib.hid h
  have H' := Lib.hid h'
  clear h h'
  obtain ⟨a, n, c⟩ := s
  obtain ⟨a', n', c'⟩ := s'
  simp only at hle hmax hle' hmax' ⊢
  by_cases hll : n = n'
  · subst hll
    have HR : Hid (lenAll n n (fun i => f i == f' i) = allQ (fun i => f i == f' i) 0 n) := Lib.hid (if_pos rfl)
    go_enter Try.func35, Try.ntmps35
    go_wp2_with fail
    go_loopw [13] (fun i wr => ∃ j : Nat, j ≤ n ∧ i = .int .i64 j ∧ lenAll n n (fun i => f i == f' i) = allQ (fun i => f i == f' i) j (n - j) ∧ Cls w wr) (fun i _ => n - (intOf i).toNat)
    case atStart => exact ⟨0, Nat.zero_le _, rfl, HR.out, Cls.of (Below.refl _ _)⟩
    case round =>
      clear HR
      obtain ⟨j, hj, rfl, he, x, rfl⟩ := hrel
      have HE := Lib.hid he
      clear he
      by_cases hlt : j < n
      · obtain ⟨b, off, ha, hb, hc⟩ := H.out.2.2.2 j hlt
        obtain ⟨b', off', ha', hb', hc'⟩ := H'.out.2.2.2 j hlt
        simp only at ha ha'
        subst ha ha'
        have q := hc 0 (by omega)
        have q' := hc' 0 (by omega)
        simp only [intC, List.getElem?_cons_zero, Nat.add_zero, Nat.mul_one] at q q'
        clear hc hc'
        have hnj : n - j = (n - (j + 1)) + 1 := by omega
        have HG : Hid ((fun i => f i == f' i) j = true → lenAll n n (fun i => f i == f' i) = allQ (fun i => f i == f' i) (j + 1) (n - (j + 1))) := Lib.hid (fun hp => by rw [HE.out, hnj, allQ_go hp])
        have HS : Hid ((fun i => f i == f' i) j = false → lenAll n n (fun i => f i == f' i) = false) := Lib.hid (fun hp => by rw [HE.out, hnj, allQ_stop hp])
        clear hnj
        cases hp : (f j == f' j)
        all_goals
          have b4 : (f j != f' j) = !(f j == f' j) := rfl
          rw [hp] at b4
          have HP := Lib.hid (show (fun i => f i == f' i) j = _ from hp)
          clear hp
          generalize f j = u at *
          generalize f' j = u' at *
          go_wp2_with fail
          refine wp_region_on (by kernel_rfl) (by kernel_rfl) ?_
          repeat (go_big_quiet_step (fail))
          refine wpQuiet_nil ?_
          rintro _ ⟨y, rfl⟩
          go_wp2_with fail
        · go_ret
          refine ⟨ret_bool (HS.out HP.out).symm, Cls.of ?_⟩
          repeat first | with_reducible exact Below.refl _ _ | with_reducible refine Below.setCell ?_ (by first | omega | (simp; done) | (simp; omega)) _ | with_reducible refine Below.alloc ?_ (by first | omega | (simp; done) | (simp; omega)) _ | with_reducible refine Below.drew ?_ | with_reducible refine Ext.on _ ?_ (by first | omega | (simp; done) | (simp; omega))
        · go_roundw
          case rel =>
            refine ⟨j + 1, by omega, by go_num, HG.out HP.out, Cls.of ?_⟩
            repeat first | with_reducible exact Below.refl _ _ | with_reducible refine Below.setCell ?_ (by first | omega | (simp; done) | (simp; omega)) _ | with_reducible refine Below.alloc ?_ (by first | omega | (simp; done) | (simp; omega)) _ | with_reducible refine Below.drew ?_ | with_reducible refine Ext.on _ ?_ (by first | omega | (simp; done) | (simp; omega))
          case measure => simp [intOf]; omega
      · have HT : Hid (lenAll n n (fun i => f i == f' i) = true) := Lib.hid (by rw [HE.out, show n - j = 0 by omega]; rfl)
        go_wp2_with fail
        go_ret
        exact ⟨ret_bool HT.out.symm, x, rfl⟩
  · have HR : Hid (lenAll n n' (fun i => f i == f' i) = false) := Lib.hid (if_neg hll)
    have b0 : ((n : Int) != (n' : Int)) = true := by simp; omega
    clear hll H H'
    go_enter Try.func35, Try.ntmps35
    go_wp2_with fail
    go_ret
    refine ⟨ret_bool HR.out.symm, Cls.of ?_⟩
    repeat first | with_reducible exact Below.refl _ _ | with_reducible refine Below.setCell ?_ (by first | omega | (simp; done) | (simp; omega)) _ | with_reducible refine Below.alloc ?_ (by first | omega | (simp; done) | (simp; omega)) _ | with_reducible refine Below.drew ?_ | with_reducible refine Ext.on _ ?_ (by first | omega | (simp; done) | (simp; omega))
set_option maxHeartbeats 4000000 in
set_option maxRecDepth 20000 in
theorem rInts_calls (s s' : Sl) (f f' : Nat → Int) (w : World) (h : SlAt w 1 s (intC f)) (h' : SlAt w 1 s' (intC f')) :
    Calls Try.prog 40 #[.slice s.a s.len s.cap, .slice s'.a s'.len s'.cap] w fun r w' => r = .returned (.bool (lenAll s.len s'.len (fun i => f i == f' i))) ∧ Cls w w' := by
  have hle := h.1
  have hmax := h.2.1
  have hle' := h'.1
  have hmax' := h'.2.1
  unfold maxLen at hmax hmax'
  have H := Lib.hid h
  have H' := Lib.hid h'
  clear h h'
  obtain ⟨a, n, c⟩ := s
  obtain ⟨a', n', c'⟩ := s'
  simp only at hle hmax hle' hmax' ⊢
  by_cases hll : n = n'
  · subst hll
    have HR : Hid (lenAll n n (fun i => f i == f' i) = allQ (fun i => f i == f' i) 0 n) := Lib.hid (if_pos rfl)
    go_enter Try.func40, Try.ntmps40
    go_wp2_with fail
    go_loopw [5] (fun i wr => ∃ j : Nat, j ≤ n ∧ i = .int .i64 j ∧ lenAll n n (fun i => f i == f' i) = allQ (fun i => f i == f' i) j (n - j) ∧ Cls w wr) (fun i _ => n - (intOf i).toNat)
    case atStart => exact ⟨0, Nat.zero_le _, rfl, HR.out, Cls.of (Below.refl _ _)⟩
    case round =>
      clear HR
      obtain ⟨j, hj, rfl, he, x, rfl⟩ := hrel
      have HE := Lib.hid he
      clear he
      by_cases hlt : j < n
      · obtain ⟨b, off, ha, hb, hc⟩ := H.out.2.2.2 j hlt
        obtain ⟨b', off', ha', hb', hc'⟩ := H'.out.2.2.2 j hlt
        simp only at ha ha'
        subst ha ha'
        have q := hc 0 (by omega)
        have q' := hc' 0 (by omega)
        simp only [intC, List.getElem?_cons_zero, Nat.add_zero, Nat.mul_one] at q q'
        clear hc hc'
        have hnj : n - j = (n - (j + 1)) + 1 := by omega
        have HG : Hid ((fun i => f i == f' i) j = true → lenAll n n (fun i => f i == f' i) = allQ (fun i => f i == f' i) (j + 1) (n - (j + 1))) := Lib.hid (fun hp => by rw [HE.out, hnj, allQ_go hp])
        have HS : Hid ((fun i => f i == f' i) j = false → lenAll n n (fun i => f i == f' i) = false) := Lib.hid (fun hp => by rw [HE.out, hnj, allQ_stop hp])
        clear hnj
        cases hp : (f j == f' j)
        all_goals
          have b4 : (f j != f' j) = !(f j == f' j) := rfl
          rw [hp] at b4
          have HP := Lib.hid (show (fun i => f i == f' i) j = _ from hp)
          clear hp
          generalize f j = u at *
          generalize f' j = u' at *
          go_wp2_with fail
          refine wp_region_on (by kernel_rfl) (by kernel_rfl) ?_
          repeat (go_big_quiet_step (fail))
          refine wpQuiet_nil ?_
          rintro _ ⟨y, rfl⟩
          go_wp2_with fail
        · go_ret
          refine ⟨ret_bool (HS.out HP.out).symm, Cls.of ?_⟩
          repeat first | with_reducible exact Below.refl _ _ | with_reducible refine Below.setCell ?_ (by first | omega | (simp; done) | (simp; omega)) _ | with_reducible refine Below.alloc ?_ (by first | omega | (simp; done) | (simp; omega)) _ | with_reducible refine Below.drew ?_ | with_reducible refine Ext.on _ ?_ (by first | omega | (simp; done) | (simp; omega))
        · go_roundw
          case rel =>
            refine ⟨j + 1, by omega, by go_num, HG.out HP.out, Cls.of ?_⟩
            repeat first | with_reducible exact Below.refl _ _ | with_reducible refine Below.setCell ?_ (by first | omega | (simp; done) | (simp; omega)) _ | with_reducible refine Below.alloc ?_ (by first | omega | (simp; done) | (simp; omega)) _ | with_reducible refine Below.drew ?_ | with_reducible refine Ext.on _ ?_ (by first | omega | (simp; done) | (simp; omega))
          case measure => simp [intOf]; omega
      · have HT : Hid (lenAll n n (fun i => f i == f' i) = true) := Lib.hid (by rw [HE.out, show n - j = 0 by omega]; rfl)
        go_wp2_with fail
        go_ret
        exact ⟨ret_bool HT.out.symm, x, rfl⟩
  · have HR : Hid (lenAll n n' (fun i => f i == f' i) = false) := Lib.hid (if_neg hll)
    have b0 : ((n : Int) != (n' : Int)) = true := by simp; omega
    clear hll H H'
    go_enter Try.func40, Try.ntmps40
    go_wp2_with fail
    go_ret
    refine ⟨ret_bool HR.out.symm, Cls.of ?_⟩
    repeat first | with_reducible exact Below.refl _ _ | with_reducible refine Below.setCell ?_ (by first | omega | (simp; done) | (simp; omega)) _ | with_reducible refine Below.alloc ?_ (by first | omega | (simp; done) | (simp; omega)) _ | with_reducible refine Below.drew ?_ | with_reducible refine Ext.on _ ?_ (by first | omega | (simp; done) | (simp; omega))
set_option maxHeartbeats 4000000 in
set_option maxRecDepth 20000 in
theorem eqVals_calls (s s' : Sl) (f f' : Nat → Vl) (w : World) (h : SlAt w 3 s (fun i => (f i).cells)) (h' : SlAt w 3 s' (fun i => (f' i).cells)) :
    Calls Try.prog 37 #[.slice s.a s.len s.cap, .slice s'.a s'.len s'.cap] w fun r w' => r = .returned (.bool (lenAll s.len s'.len (fun i => sameV (f i) (f' i)))) ∧ Cls w w' := by
  have hle := h.1
  have hmax := h.2.1
  have hle' := h'.1
  have hmax' := h'.2.1
  unfold maxLen at hmax hmax'
  have H := Lib.hid h
  have H' := Lib.hid h'
  clear h h'
  obtain ⟨a, n, c⟩ := s
  obtain ⟨a', n', c'⟩ := s'
  simp only at hle hmax hle' hmax' ⊢
  by_cases hll : n = n'
  · subst hll
    have HR : Hid (lenAll n n (fun i => sameV (f i) (f' i)) = allQ (fun i => sameV (f i) (f' i)) 0 n) := Lib.hid (if_pos rfl)
    go_enter Try.func37, Try.ntmps37
    go_wp2_with fail
    go_loopw [13] (fun i wr => ∃ j : Nat, j ≤ n ∧ i = .int .i64 j ∧ lenAll n n (fun i => sameV (f i) (f' i)) = allQ (fun i => sameV (f i) (f' i)) j (n - j) ∧ Cls w wr) (fun i _ => n - (intOf i).toNat)
    case atStart => exact ⟨0, Nat.zero_le _, rfl, HR.out, Cls.of (Below.refl _ _)⟩
    case round =>
      clear HR
      obtain ⟨j, hj, rfl, he, x, rfl⟩ := hrel
      have HE := Lib.hid he
      clear he
      by_cases hlt : j < n
      · obtain ⟨b, off, ha, hb, hc⟩ := H.out.2.2.2 j hlt
        obtain ⟨b', off', ha', hb', hc'⟩ := H'.out.2.2.2 j hlt
        simp only at ha ha'
        subst ha ha'
        have q0 := hc 0 (by omega)
        have q1 := hc 1 (by omega)
        have q2 := hc 2 (by omega)
        have q0' := hc' 0 (by omega)
        have q1' := hc' 1 (by omega)
        have q2' := hc' 2 (by omega)
        simp only [Vl.cells, List.getElem?_cons_zero, List.getElem?_cons_succ, Nat.add_zero] at q0 q1 q2 q0' q1' q2'
        clear hc hc'
        have hnj : n - j = (n - (j + 1)) + 1 := by omega
        have HG : Hid ((fun i => sameV (f i) (f' i)) j = true → lenAll n n (fun i => sameV (f i) (f' i)) = allQ (fun i => sameV (f i) (f' i)) (j + 1) (n - (j + 1))) := Lib.hid (fun hp => by rw [HE.out, hnj, allQ_go hp])
        have HS : Hid ((fun i => sameV (f i) (f' i)) j = false → lenAll n n (fun i => sameV (f i) (f' i)) = false) := Lib.hid (fun hp => by rw [HE.out, hnj, allQ_stop hp])
        clear hnj
        have HD : Hid (sameV (f j) (f' j) = (decide ((f j).k = (f' j).k) && decide ((f j).n = (f' j).n) && decide ((f j).s.toList = (f' j).s.toList))) := Lib.hid rfl
        have HG2 : Hid (sameV (f j) (f' j) = true → lenAll n n (fun i => sameV (f i) (f' i)) = allQ (fun i => sameV (f i) (f' i)) (j + 1) (n - (j + 1))) := HG
        have HS2 : Hid (sameV (f j) (f' j) = false → lenAll n n (fun i => sameV (f i) (f' i)) = false) := HS
        clear HG HS
        generalize sameV (f j) (f' j) = sv at *
        generalize f j = u at *
        generalize f' j = u' at *
        obtain ⟨uk, un, us⟩ := u
        obtain ⟨uk', un', us'⟩ := u'
        simp only at q0 q1 q2 q0' q1' q2' HD
        by_cases p0 : uk = uk' <;> by_cases p1 : un = un' <;> by_cases p2 : us.toList = us'.toList
        all_goals
          have HP : Hid (sv = (decide (uk = uk') && decide (un = un') && decide (us.toList = us'.toList))) := HD
          simp only [p0, p1, p2, decide_true, decide_false, Bool.and_true, Bool.and_false] at HP
          clear HD
          go_wp2_with fail
          refine wp_region_on (by kernel_rfl) (by kernel_rfl) ?_
          repeat (go_big_quiet_step (fail))
          refine wpQuiet_nil ?_
          rintro _ ⟨y, rfl⟩
          go_wp2_with fail
          first
            | (go_ret
               refine ⟨ret_bool (HS2.out HP.out).symm, Cls.of ?_⟩
               repeat first | with_reducible exact Below.refl _ _ | with_reducible refine Below.setCell ?_ (by first | omega | (simp; done) | (simp; omega)) _ | with_reducible refine Below.alloc ?_ (by first | omega | (simp; done) | (simp; omega)) _ | with_reducible refine Below.drew ?_ | with_reducible refine Ext.on _ ?_ (by first | omega | (simp; done) | (simp; omega)))
            | (go_roundw
               case rel =>
                 refine ⟨j + 1, by omega, by go_num, HG2.out HP.out, Cls.of ?_⟩
                 repeat first | with_reducible exact Below.refl _ _ | with_reducible refine Below.setCell ?_ (by first | omega | (simp; done) | (simp; omega)) _ | with_reducible refine Below.alloc ?_ (by first | omega | (simp; done) | (simp; omega)) _ | with_reducible refine Below.drew ?_ | with_reducible refine Ext.on _ ?_ (by first | omega | (simp; done) | (simp; omega))
               case measure => simp [intOf]; omega)
      · have HT : Hid (lenAll n n (fun i => sameV (f i) (f' i)) = true) := Lib.hid (by rw [HE.out, show n - j = 0 by omega]; rfl)
        go_wp2_with fail
        go_ret
        exact ⟨ret_bool HT.out.symm, x, rfl⟩
  · have HR : Hid (lenAll n n' (fun i => sameV (f i) (f' i)) = false) := Lib.hid (if_neg hll)
    have b0 : ((n : Int) != (n' : Int)) = true := by simp; omega
    clear hll H H'
    go_enter Try.func37, Try.ntmps37
    go_wp2_with fail
    go_ret
    refine ⟨ret_bool HR.out.symm, Cls.of ?_⟩
    repeat first | with_reducible exact Below.refl _ _ | with_reducible refine Below.setCell ?_ (by first | omega | (simp; done) | (simp; omega)) _ | with_reducible refine Below.alloc ?_ (by first | omega | (simp; done) | (simp; omega)) _ | with_reducible refine Below.drew ?_ | with_reducible refine Ext.on _ ?_ (by first | omega | (simp; done) | (simp; omega))
set_option maxHeartbeats 4000000 in
theorem sameAgg_calls (g g' : Ag) (w : World) (h : AgAt w g) (h' : AgAt w g') :
    Calls Try.prog 34 #[.agg #[.int .i64 g.fn, .int .i64 g.arg.op, .int .i64 g.arg.ty, .int .i64 g.arg.num, .string g.arg.text, .int .i64 g.arg.col, .slice g.ka.a g.ka.len g.ka.cap], .agg #[.int .i64 g'.fn, .int .i64 g'.arg.op, .int .i64 g'.arg.ty, .int .i64 g'.arg.num, .string g'.arg.text, .int .i64 g'.arg.col, .slice g'.ka.a g'.ka.len g'.ka.cap]] w fun r w' => r = .returned (.bool (sameG g g')) ∧ Cls w w' := by
  have C1 : Hid (∀ W, Below w.heap.size w W → Calls Try.prog 31 #[.agg #[.int .i64 g.arg.op, .int .i64 g.arg.ty, .int .i64 g.arg.num, .string g.arg.text, .int .i64 g.arg.col, .slice g.ka.a g.ka.len g.ka.cap], .agg #[.int .i64 g'.arg.op, .int .i64 g'.arg.ty, .int .i64 g'.arg.num, .string g'.arg.text, .int .i64 g'.arg.col, .slice g'.ka.a g'.ka.len g'.ka.cap]] W fun r w' => r = .returned (.bool (sameE g.arg g'.arg)) ∧ Cls W w') := Lib.hid (fun W hW => Same_calls g.arg g'.arg _ _ _ _ _ _ _ _ W (h.2.later hW) (h'.2.later hW))
  have HS : Hid (sameG g g' = (decide (g.fn = g'.fn) && sameE g.arg g'.arg)) := Lib.hid rfl
  clear h h'
  generalize sameG g g' = sg at *
  generalize sameE g.arg g'.arg = se at *
  by_cases hf : g.fn = g'.fn
  · have HR : Hid (sg = se) := Lib.hid (by rw [HS.out]; simp [hf])
    have b0 : (g.fn == g'.fn) = true := by simp [hf]
    clear hf HS
    go_enter Try.func34, Try.ntmps34
    go_wp2_with (go_at_call 31; ((with_reducible refine (C1.out _ ?_).mono ?_); (· (repeat first | with_reducible exact Below.refl _ _ | with_reducible refine Below.setCell ?_ (by first | omega | (simp; done) | (simp; omega)) _ | with_reducible refine Below.alloc ?_ (by first | omega | (simp; done) | (simp; omega)) _ | with_reducible refine Below.drew ?_ | with_reducible refine Ext.on _ ?_ (by first | omega | (simp; done) | (simp; omega)))); rintro r _ ⟨rfl, y, rfl⟩))
    go_ret
    refine ⟨ret_bool HR.out.symm, Cls.of ?_⟩
    repeat first | with_reducible exact Below.refl _ _ | with_reducible refine Below.setCell ?_ (by first | omega | (simp; done) | (simp; omega)) _ | with_reducible refine Below.alloc ?_ (by first | omega | (simp; done) | (simp; omega)) _ | with_reducible refine Below.drew ?_ | with_reducible refine Ext.on _ ?_ (by first | omega | (simp; done) | (simp; omega))
  · have HR : Hid (sg = false) := Lib.hid (by rw [HS.out]; simp [hf])
    have b0 : (g.fn == g'.fn) = false := by simp [hf]
    clear hf HS
    go_enter Try.func34, Try.ntmps34
    go_wp2_with fail
    go_ret
    refine ⟨ret_bool HR.out.symm, Cls.of ?_⟩
    repeat first | with_reducible exact Below.refl _ _ | with_reducible refine Below.setCell ?_ (by first | omega | (simp; done) | (simp; omega)) _ | with_reducible refine Below.alloc ?_ (by first | omega | (simp; done) | (simp; omega)) _ | with_reducible refine Below.drew ?_ | with_reducible refine Ext.on _ ?_ (by first | omega | (simp; done) | (simp; omega))
set_option maxHeartbeats 4000000 in
set_option maxRecDepth 20000 in
theorem eqAggs_calls (s s' : Sl) (f f' : Nat → Ag) (w : World) (h : SlAt w 7 s (fun i => (f i).cells)) (h' : SlAt w 7 s' (fun i => (f' i).cells)) (g : ∀ i, i < s.len → AgAt w (f i)) (g' : ∀ i, i < s'.len → AgAt w (f' i)) :
    Calls Try.prog 33 #[.slice s.a s.len s.cap, .slice s'.a s'.len s'.cap, .func (.func 34) #[] #[]] w fun r w' => r = .returned (.bool (lenAll s.len s'.len (fun i => sameG (f i) (f' i)))) ∧ Cls w w' := by
  have hle := h.1
  have hmax := h.2.1
  have hle' := h'.1
  have hmax' := h'.2.1
  unfold maxLen at hmax hmax'
  have H := Lib.hid h
  have H' := Lib.hid h'
  have HA := Lib.hid g
  have HA' := Lib.hid g'
  clear g g'
  clear h h'
  obtain ⟨a, n, c⟩ := s
  obtain ⟨a', n', c'⟩ := s'
  simp only at hle hmax hle' hmax' ⊢
  by_cases hll : n = n'
  · subst hll
    have HR : Hid (lenAll n n (fun i => sameG (f i) (f' i)) = allQ (fun i => sameG (f i) (f' i)) 0 n) := Lib.hid (if_pos rfl)
    go_enter Try.func33, Try.ntmps33
    go_wp2_with fail
    go_loopw [17] (fun i wr => ∃ j : Nat, j ≤ n ∧ i = .int .i64 j ∧ lenAll n n (fun i => sameG (f i) (f' i)) = allQ (fun i => sameG (f i) (f' i)) j (n - j) ∧ Cls w wr) (fun i _ => n - (intOf i).toNat)
    case atStart => exact ⟨0, Nat.zero_le _, rfl, HR.out, Cls.of (Below.refl _ _)⟩
    case round =>
      clear HR
      obtain ⟨j, hj, rfl, he, x, rfl⟩ := hrel
      have HE := Lib.hid he
      clear he
      by_cases hlt : j < n
      · obtain ⟨b, off, ha, hb, hc⟩ := H.out.2.2.2 j hlt
        obtain ⟨b', off', ha', hb', hc'⟩ := H'.out.2.2.2 j hlt
        simp only at ha ha'
        subst ha ha'
        have q0 := hc 0 (by omega)
        have q0' := hc' 0 (by omega)
        have q1 := hc 1 (by omega)
        have q1' := hc' 1 (by omega)
        have q2 := hc 2 (by omega)
        have q2' := hc' 2 (by omega)
        have q3 := hc 3 (by omega)
        have q3' := hc' 3 (by omega)
        have q4 := hc 4 (by omega)
        have q4' := hc' 4 (by omega)
        have q5 := hc 5 (by omega)
        have q5' := hc' 5 (by omega)
        have q6 := hc 6 (by omega)
        have q6' := hc' 6 (by omega)
        simp only [Ag.cells, Sl.v, List.getElem?_cons_zero, List.getElem?_cons_succ, Nat.add_zero] at q0 q0' q1 q1' q2 q2' q3 q3' q4 q4' q5 q5' q6 q6'
        clear hc hc'
        have hnj : n - j = (n - (j + 1)) + 1 := by omega
        have HG : Hid ((fun i => sameG (f i) (f' i)) j = true → lenAll n n (fun i => sameG (f i) (f' i)) = allQ (fun i => sameG (f i) (f' i)) (j + 1) (n - (j + 1))) := Lib.hid (fun hp => by rw [HE.out, hnj, allQ_go hp])
        have HS : Hid ((fun i => sameG (f i) (f' i)) j = false → lenAll n n (fun i => sameG (f i) (f' i)) = false) := Lib.hid (fun hp => by rw [HE.out, hnj, allQ_stop hp])
        clear hnj
        obtain ⟨l1, l2, l3, l4, l5⟩ := x.lts hb
        obtain ⟨m1, m2, m3, m4, m5⟩ := x.lts hb'
        have xs := x.size
        have C1 : Hid (∀ W, Below w.heap.size w W → Calls Try.prog 34 #[.agg #[.int .i64 (f j).fn, .int .i64 (f j).arg.op, .int .i64 (f j).arg.ty, .int .i64 (f j).arg.num, .string (f j).arg.text, .int .i64 (f j).arg.col, .slice (f j).ka.a (f j).ka.len (f j).ka.cap], .agg #[.int .i64 (f' j).fn, .int .i64 (f' j).arg.op, .int .i64 (f' j).arg.ty, .int .i64 (f' j).arg.num, .string (f' j).arg.text, .int .i64 (f' j).arg.col, .slice (f' j).ka.a (f' j).ka.len (f' j).ka.cap]] W fun r w' => r = .returned (.bool (sameG (f j) (f' j))) ∧ Cls W w') := Lib.hid (fun W hW => sameAgg_calls (f j) (f' j) W ⟨(HA.out j hlt).1, (HA.out j hlt).2.later hW⟩ ⟨(HA'.out j hlt).1, (HA'.out j hlt).2.later hW⟩)
        cases hp : sameG (f j) (f' j)
        all_goals
          have HP := Lib.hid (show (fun i => sameG (f i) (f' i)) j = _ from hp)
          rw [hp] at C1
          clear hp
          generalize f j = u at *
          generalize f' j = u' at *
          go_wp2_with ((go_at_call 34; ((with_reducible refine (C1.out _ ?_).mono ?_); (· (repeat first | with_reducible exact Below.refl _ _ | with_reducible refine Below.setCell ?_ (by first | omega | (simp; done) | (simp; omega)) _ | with_reducible refine Below.alloc ?_ (by first | omega | (simp; done) | (simp; omega)) _ | with_reducible refine Below.drew ?_ | with_reducible refine Ext.on _ ?_ (by first | omega | (simp; done) | (simp; omega)))); rintro r _ ⟨rfl, y, rfl⟩)))
        · go_ret
          refine ⟨ret_bool (HS.out HP.out).symm, Cls.of ?_⟩
          repeat first | with_reducible exact Below.refl _ _ | with_reducible refine Below.setCell ?_ (by first | omega | (simp; done) | (simp; omega)) _ | with_reducible refine Below.alloc ?_ (by first | omega | (simp; done) | (simp; omega)) _ | with_reducible refine Below.drew ?_ | with_reducible refine Ext.on _ ?_ (by first | omega | (simp; done) | (simp; omega))
        · go_roundw
          case rel =>
            refine ⟨j + 1, by omega, by go_num, HG.out HP.out, Cls.of ?_⟩
            repeat first | with_reducible exact Below.refl _ _ | with_reducible refine Below.setCell ?_ (by first | omega | (simp; done) | (simp; omega)) _ | with_reducible refine Below.alloc ?_ (by first | omega | (simp; done) | (simp; omega)) _ | with_reducible refine Below.drew ?_ | with_reducible refine Ext.on _ ?_ (by first | omega | (simp; done) | (simp; omega))
          case measure => simp [intOf]; omega
      · have HT : Hid (lenAll n n (fun i => sameG (f i) (f' i)) = true) := Lib.hid (by rw [HE.out, show n - j = 0 by omega]; rfl)
        go_wp2_with fail
        go_ret
        exact ⟨ret_bool HT.out.symm, x, rfl⟩
  · have HR : Hid (lenAll n n' (fun i => sameG (f i) (f' i)) = false) := Lib.hid (if_neg hll)
    have b0 : ((n : Int) != (n' : Int)) = true := by simp; omega
    clear hll H H'
    go_enter Try.func33, Try.ntmps33
    go_wp2_with fail
    go_ret
    refine ⟨ret_bool HR.out.symm, Cls.of ?_⟩
    repeat first | with_reducible exact Below.refl _ _ | with_reducible refine Below.setCell ?_ (by first | omega | (simp; done) | (simp; omega)) _ | with_reducible refine Below.alloc ?_ (by first | omega | (simp; done) | (simp; omega)) _ | with_reducible refine Below.drew ?_ | with_reducible refine Ext.on _ ?_ (by first | omega | (simp; done) | (simp; omega))
set_option maxHeartbeats 4000000 in
set_option maxRecDepth 20000 in
theorem eqRows_calls (s s' : Sl) (ro ro' : Nat → Sl) (f f' : Nat → Nat → Vl) (w : World) (h : SlAt w 1 s (fun i => [(ro i).v])) (h' : SlAt w 1 s' (fun i => [(ro' i).v])) (g : ∀ i, i < s.len → SlAt w 3 (ro i) (fun k => (f i k).cells)) (g' : ∀ i, i < s'.len → SlAt w 3 (ro' i) (fun k => (f' i k).cells)) :
    Calls Try.prog 36 #[.slice s.a s.len s.cap, .slice s'.a s'.len s'.cap, .func (.func 37) #[] #[]] w fun r w' => r = .returned (.bool (lenAll s.len s'.len (fun i => lenAll (ro i).len (ro' i).len fun k => sameV (f i k) (f' i k)))) ∧ Cls w w' := by
  have hle := h.1
  have hmax := h.2.1
  have hle' := h'.1
  have hmax' := h'.2.1
  unfold maxLen at hmax hmax'
  have H := Lib.hid h
  have H' := Lib.hid h'
  have HA := Lib.hid g
  have HA' := Lib.hid g'
  clear g g'
  clear h h'
  obtain ⟨a, n, c⟩ := s
  obtain ⟨a', n', c'⟩ := s'
  simp only at hle hmax hle' hmax' ⊢
  by_cases hll : n = n'
  · subst hll
    have HR : Hid (lenAll n n (fun i => lenAll (ro i).len (ro' i).len fun k => sameV (f i k) (f' i k)) = allQ (fun i => lenAll (ro i).len (ro' i).len fun k => sameV (f i k) (f' i k)) 0 n) := Lib.hid (if_pos rfl)
    go_enter Try.func36, Try.ntmps36
    go_wp2_with fail
    go_loopw [17] (fun i wr => ∃ j : Nat, j ≤ n ∧ i = .int .i64 j ∧ lenAll n n (fun i => lenAll (ro i).len (ro' i).len fun k => sameV (f i k) (f' i k)) = allQ (fun i => lenAll (ro i).len (ro' i).len fun k => sameV (f i k) (f' i k)) j (n - j) ∧ Cls w wr) (fun i _ => n - (intOf i).toNat)
    case atStart => exact ⟨0, Nat.zero_le _, rfl, HR.out, Cls.of (Below.refl _ _)⟩
    case round =>
      clear HR
      obtain ⟨j, hj, rfl, he, x, rfl⟩ := hrel
      have HE := Lib.hid he
      clear he
      by_cases hlt : j < n
      · obtain ⟨b, off, ha, hb, hc⟩ := H.out.2.2.2 j hlt
        obtain ⟨b', off', ha', hb', hc'⟩ := H'.out.2.2.2 j hlt
        simp only at ha ha'
        subst ha ha'
        have q0 := hc 0 (by omega)
        have q0' := hc' 0 (by omega)
        simp only [Sl.v, List.getElem?_cons_zero, Nat.add_zero, Nat.mul_one] at q0 q0'
        clear hc hc'
        have hnj : n - j = (n - (j + 1)) + 1 := by omega
        have HG : Hid ((fun i => lenAll (ro i).len (ro' i).len fun k => sameV (f i k) (f' i k)) j = true → lenAll n n (fun i => lenAll (ro i).len (ro' i).len fun k => sameV (f i k) (f' i k)) = allQ (fun i => lenAll (ro i).len (ro' i).len fun k => sameV (f i k) (f' i k)) (j + 1) (n - (j + 1))) := Lib.hid (fun hp => by rw [HE.out, hnj, allQ_go hp])
        have HS : Hid ((fun i => lenAll (ro i).len (ro' i).len fun k => sameV (f i k) (f' i k)) j = false → lenAll n n (fun i => lenAll (ro i).len (ro' i).len fun k => sameV (f i k) (f' i k)) = false) := Lib.hid (fun hp => by rw [HE.out, hnj, allQ_stop hp])
        clear hnj
        obtain ⟨l1, l2, l3, l4, l5⟩ := x.lts hb
        obtain ⟨m1, m2, m3, m4, m5⟩ := x.lts hb'
        have xs := x.size
        have C1 : Hid (∀ W, Below w.heap.size w W → Calls Try.prog 37 #[.slice (ro j).a (ro j).len (ro j).cap, .slice (ro' j).a (ro' j).len (ro' j).cap] W fun e w' => e = .returned (.bool (lenAll (ro j).len (ro' j).len fun k => sameV (f j k) (f' j k))) ∧ Cls W w') := Lib.hid (fun W hW => eqVals_calls (ro j) (ro' j) (f j) (f' j) W ((HA.out j hlt).later hW) ((HA'.out j hlt).later hW))
        cases hp : (lenAll (ro j).len (ro' j).len fun k => sameV (f j k) (f' j k))
        all_goals
          have HP := Lib.hid (show (fun i => lenAll (ro i).len (ro' i).len fun k => sameV (f i k) (f' i k)) j = _ from hp)
          rw [hp] at C1
          clear hp
          generalize ro j = u at *
          generalize ro' j = u' at *
          go_wp2_with ((go_at_call 37; ((with_reducible refine (C1.out _ ?_).mono ?_); (· (repeat first | with_reducible exact Below.refl _ _ | with_reducible refine Below.setCell ?_ (by first | omega | (simp; done) | (simp; omega)) _ | with_reducible refine Below.alloc ?_ (by first | omega | (simp; done) | (simp; omega)) _ | with_reducible refine Below.drew ?_ | with_reducible refine Ext.on _ ?_ (by first | omega | (simp; done) | (simp; omega)))); rintro e _ ⟨rfl, y, rfl⟩)))
        · go_ret
          refine ⟨ret_bool (HS.out HP.out).symm, Cls.of ?_⟩
          repeat first | with_reducible exact Below.refl _ _ | with_reducible refine Below.setCell ?_ (by first | omega | (simp; done) | (simp; omega)) _ | with_reducible refine Below.alloc ?_ (by first | omega | (simp; done) | (simp; omega)) _ | with_reducible refine Below.drew ?_ | with_reducible refine Ext.on _ ?_ (by first | omega | (simp; done) | (simp; omega))
        · go_roundw
          case rel =>
            refine ⟨j + 1, by omega, by go_num, HG.out HP.out, Cls.of ?_⟩
            repeat first | with_reducible exact Below.refl _ _ | with_reducible refine Below.setCell ?_ (by first | omega | (simp; done) | (simp; omega)) _ | with_reducible refine Below.alloc ?_ (by first | omega | (simp; done) | (simp; omega)) _ | with_reducible refine Below.drew ?_ | with_reducible refine Ext.on _ ?_ (by first | omega | (simp; done) | (simp; omega))
          case measure => simp [intOf]; omega
      · have HT : Hid (lenAll n n (fun i => lenAll (ro i).len (ro' i).len fun k => sameV (f i k) (f' i k)) = true) := Lib.hid (by rw [HE.out, show n - j = 0 by omega]; rfl)
        go_wp2_with fail
        go_ret
        exact ⟨ret_bool HT.out.symm, x, rfl⟩
  · have HR : Hid (lenAll n n' (fun i => lenAll (ro i).len (ro' i).len fun k => sameV (f i k) (f' i k)) = false) := Lib.hid (if_neg hll)
    have b0 : ((n : Int) != (n' : Int)) = true := by simp; omega
    clear hll H H'
    go_enter Try.func36, Try.ntmps36
    go_wp2_with fail
    go_ret
    refine ⟨ret_bool HR.out.symm, Cls.of ?_⟩
    repeat first | with_reducible exact Below.refl _ _ | with_reducible refine Below.setCell ?_ (by first | omega | (simp; done) | (simp; omega)) _ | with_reducible refine Below.alloc ?_ (by first | omega | (simp; done) | (simp; omega)) _ | with_reducible refine Below.drew ?_ | with_reducible refine Ext.on _ ?_ (by first | omega | (simp; done) | (simp; omega))
end Go.Proofs.Ytonnbmiallammaa
