/-
  Leaves and splits of proofs, and copies of bounds. Which nodes are right, and bounds that are copied and changed in one place. The boxes of a split's two Kids.
-/
import Derived.Test.YtilhhbjdcdediaaL01
import Derived.Test.YtilhhbjdcdediaaJ21
import Derived.Laws.CopyOwn
import Derived.Test.YtilhhbjdcdediaaJ31
import Derived.Test.YtilhhbjdcdediaaJ32
set_option linter.unusedVariables false
namespace Go.Proofs.Ytilhhbjdcdediaa
open Go Go.RowKit Go.Deep
/-- A node without Kids that says nothing of a variable. -/
def leafB (p : Pf) : Bool := p.v == 0 && (p.bd == 0 && decide (p.ks.len = 0))
/-- A node that divides a variable. -/
def splitB (un : Nat) (p : Pf) : Bool := decide (0 ≤ p.v ∧ p.v < un) && (decide (0 ≤ p.bd ∧ p.bd ≤ 1000000000) && (decide (p.mu.len = 0) && decide (p.ks.len = 2)))
set_option maxHeartbeats 8000000 in
set_option maxRecDepth 20000 in
theorem isLeaf_calls (p : Pf) (la : Option Addr) (ln lc : Nat) (pa : Option Addr) (pn pc : Nat) (d : Int) (w : World) (hk : p.ks.len ≤ p.ks.cap ∧ p.ks.cap ≤ maxLen) (hd : d ≤ 200) :
    Calls Try.prog 78 #[p.val, .agg #[.slice la ln lc, .slice pa pn pc, .int .i64 d]] w fun e w' => e = .returned (.bool (leafB p)) ∧ Cls w w' := by
  unfold Pf.val leafB
  obtain ⟨h1, h2⟩ := hk
  unfold maxLen at h2
  generalize p.kind = pk at *
  generalize p.mu = mu at *
  generalize p.v = pv at *
  generalize p.bd = pb at *
  obtain ⟨ka, kn, kc⟩ := p.ks
  simp only at h1 h2 ⊢
  have d1 : decide (d ≤ 200) = true := decide_eq_true hd
  obtain ⟨hb0, m0, m1, m2, m3, m4⟩ := five_s (heap_two0 w (.cells #[.int .i64 pk, .slice mu.a mu.len mu.cap, .int .i64 pv, .int .i64 pb, .slice ka kn kc] 48) (.cells #[.slice la ln lc, .slice pa pn pc, .int .i64 d] 88))
  by_cases h3 : pv = 0
  · subst h3
    by_cases h4 : pb = 0
    · subst h4
      by_cases h5 : kn = 0
      · subst h5
        go_enter Try.func78, Try.ntmps78
        go_wp2_with fail
        go_ret
        refine ⟨ret_bool (by simp), Cls.of ?_⟩
        repeat first | with_reducible exact Below.refl _ _ | with_reducible refine Below.setCell ?_ (by first | omega | (simp; done) | (simp; omega)) _ | with_reducible refine Below.alloc ?_ (by first | omega | (simp; done) | (simp; omega)) _ | with_reducible refine Below.drew ?_ | with_reducible refine Ext.on _ ?_ (by first | omega | (simp; done) | (simp; omega))
      · have d5 : ((kn : Int) == 0) = false := by simp; omega
        have e5 : decide (kn = 0) = false := decide_eq_false h5
        rw [e5]
        go_enter Try.func78, Try.ntmps78
        go_wp2_with fail
        go_ret
        refine ⟨ret_bool (by simp; try omega), Cls.of ?_⟩
        repeat first | with_reducible exact Below.refl _ _ | with_reducible refine Below.setCell ?_ (by first | omega | (simp; done) | (simp; omega)) _ | with_reducible refine Below.alloc ?_ (by first | omega | (simp; done) | (simp; omega)) _ | with_reducible refine Below.drew ?_ | with_reducible refine Ext.on _ ?_ (by first | omega | (simp; done) | (simp; omega))
    · have d4 : (pb == 0) = false := by simpa using h4
      rw [d4]
      go_enter Try.func78, Try.ntmps78
      go_wp2_with fail
      go_ret
      refine ⟨ret_bool (by simp), Cls.of ?_⟩
      repeat first | with_reducible exact Below.refl _ _ | with_reducible refine Below.setCell ?_ (by first | omega | (simp; done) | (simp; omega)) _ | with_reducible refine Below.alloc ?_ (by first | omega | (simp; done) | (simp; omega)) _ | with_reducible refine Below.drew ?_ | with_reducible refine Ext.on _ ?_ (by first | omega | (simp; done) | (simp; omega))
  · have d3 : (pv == 0) = false := by simpa using h3
    rw [d3]
    go_enter Try.func78, Try.ntmps78
    go_wp2_with fail
    go_ret
    refine ⟨ret_bool (by simp), Cls.of ?_⟩
    repeat first | with_reducible exact Below.refl _ _ | with_reducible refine Below.setCell ?_ (by first | omega | (simp; done) | (simp; omega)) _ | with_reducible refine Below.alloc ?_ (by first | omega | (simp; done) | (simp; omega)) _ | with_reducible refine Below.drew ?_ | with_reducible refine Ext.on _ ?_ (by first | omega | (simp; done) | (simp; omega))
set_option maxHeartbeats 8000000 in
set_option maxRecDepth 20000 in
theorem isSplit_calls (p : Pf) (y : Sy) (w : World) (hk : p.ks.len ≤ p.ks.cap ∧ p.ks.cap ≤ maxLen) (hm : p.mu.len ≤ p.mu.cap ∧ p.mu.cap ≤ maxLen) (hu : y.U.len ≤ y.U.cap ∧ y.U.cap ≤ maxLen) :
    Calls Try.prog 79 #[p.val, y.v] w fun e w' => e = .returned (.bool (splitB y.U.len p)) ∧ Cls w w' := by
  unfold Pf.val splitB Sy.v
  obtain ⟨h1, h2⟩ := hk
  obtain ⟨h3, h4⟩ := hm
  obtain ⟨h5, h6⟩ := hu
  unfold maxLen at h2 h4 h6
  generalize p.kind = pk at *
  generalize p.v = pv at *
  generalize p.bd = pb at *
  obtain ⟨ka, kn, kc⟩ := p.ks
  obtain ⟨ma, mn, mc⟩ := p.mu
  simp only at h1 h2 h3 h4 ⊢
  generalize y.U.a = ua at *
  generalize y.U.len = un at *
  generalize y.U.cap = uc at *
  generalize y.R.a = ra at *
  generalize y.R.len = rn at *
  generalize y.R.cap = rc at *
  generalize y.B.a = ba at *
  generalize y.B.len = bn at *
  generalize y.B.cap = bc at *
  by_cases c1 : 0 ≤ pv
  case neg =>
    have d1 : decide (0 ≤ pv) = false := decide_eq_false c1
    rw [show decide (0 ≤ pv ∧ pv < (un : Int)) = false from decide_eq_false (fun h => c1 h.1)]
    go_enter Try.func79, Try.ntmps79
    go_wp2_with fail
    go_ret
    refine ⟨ret_bool (by simp), Cls.of ?_⟩
    repeat first | with_reducible exact Below.refl _ _ | with_reducible refine Below.setCell ?_ (by first | omega | (simp; done) | (simp; omega)) _ | with_reducible refine Below.alloc ?_ (by first | omega | (simp; done) | (simp; omega)) _ | with_reducible refine Below.drew ?_ | with_reducible refine Ext.on _ ?_ (by first | omega | (simp; done) | (simp; omega))
  have d1 : decide (0 ≤ pv) = true := decide_eq_true c1
  by_cases c2 : pv < (un : Int)
  case neg =>
    have d2 : decide (pv < (un : Int)) = false := decide_eq_false c2
    rw [show decide (0 ≤ pv ∧ pv < (un : Int)) = false from decide_eq_false (fun h => c2 h.2)]
    go_enter Try.func79, Try.ntmps79
    go_wp2_with fail
    go_ret
    refine ⟨ret_bool (by simp), Cls.of ?_⟩
    repeat first | with_reducible exact Below.refl _ _ | with_reducible refine Below.setCell ?_ (by first | omega | (simp; done) | (simp; omega)) _ | with_reducible refine Below.alloc ?_ (by first | omega | (simp; done) | (simp; omega)) _ | with_reducible refine Below.drew ?_ | with_reducible refine Ext.on _ ?_ (by first | omega | (simp; done) | (simp; omega))
  have d2 : decide (pv < (un : Int)) = true := decide_eq_true c2
  rw [show decide (0 ≤ pv ∧ pv < (un : Int)) = true from decide_eq_true ⟨c1, c2⟩]
  by_cases c3 : 0 ≤ pb
  case neg =>
    have d3 : decide (0 ≤ pb) = false := decide_eq_false c3
    rw [show decide (0 ≤ pb ∧ pb ≤ 1000000000) = false from decide_eq_false (fun h => c3 h.1)]
    go_enter Try.func79, Try.ntmps79
    go_wp2_with fail
    go_ret
    refine ⟨ret_bool (by simp), Cls.of ?_⟩
    repeat first | with_reducible exact Below.refl _ _ | with_reducible refine Below.setCell ?_ (by first | omega | (simp; done) | (simp; omega)) _ | with_reducible refine Below.alloc ?_ (by first | omega | (simp; done) | (simp; omega)) _ | with_reducible refine Below.drew ?_ | with_reducible refine Ext.on _ ?_ (by first | omega | (simp; done) | (simp; omega))
  have d3 : decide (0 ≤ pb) = true := decide_eq_true c3
  by_cases c4 : pb ≤ 1000000000
  case neg =>
    have d4 : decide (pb ≤ 1000000000) = false := decide_eq_false c4
    rw [show decide (0 ≤ pb ∧ pb ≤ 1000000000) = false from decide_eq_false (fun h => c4 h.2)]
    go_enter Try.func79, Try.ntmps79
    go_wp2_with fail
    go_ret
    refine ⟨ret_bool (by simp), Cls.of ?_⟩
    repeat first | with_reducible exact Below.refl _ _ | with_reducible refine Below.setCell ?_ (by first | omega | (simp; done) | (simp; omega)) _ | with_reducible refine Below.alloc ?_ (by first | omega | (simp; done) | (simp; omega)) _ | with_reducible refine Below.drew ?_ | with_reducible refine Ext.on _ ?_ (by first | omega | (simp; done) | (simp; omega))
  have d4 : decide (pb ≤ 1000000000) = true := decide_eq_true c4
  rw [show decide (0 ≤ pb ∧ pb ≤ 1000000000) = true from decide_eq_true ⟨c3, c4⟩]
  by_cases c5 : mn = 0
  case neg =>
    have d5 : ((mn : Int) == 0) = false := by simp; omega
    rw [show decide (mn = 0) = false from decide_eq_false c5]
    go_enter Try.func79, Try.ntmps79
    go_wp2_with fail
    go_ret
    refine ⟨ret_bool (by simp; try omega), Cls.of ?_⟩
    repeat first | with_reducible exact Below.refl _ _ | with_reducible refine Below.setCell ?_ (by first | omega | (simp; done) | (simp; omega)) _ | with_reducible refine Below.alloc ?_ (by first | omega | (simp; done) | (simp; omega)) _ | with_reducible refine Below.drew ?_ | with_reducible refine Ext.on _ ?_ (by first | omega | (simp; done) | (simp; omega))
  subst c5
  by_cases c6 : kn = 2
  case neg =>
    have d6 : ((kn : Int) == 2) = false := by simp; omega
    rw [show decide (kn = 2) = false from decide_eq_false c6]
    go_enter Try.func79, Try.ntmps79
    go_wp2_with fail
    go_ret
    refine ⟨ret_bool (by simp; try omega), Cls.of ?_⟩
    repeat first | with_reducible exact Below.refl _ _ | with_reducible refine Below.setCell ?_ (by first | omega | (simp; done) | (simp; omega)) _ | with_reducible refine Below.alloc ?_ (by first | omega | (simp; done) | (simp; omega)) _ | with_reducible refine Below.drew ?_ | with_reducible refine Ext.on _ ?_ (by first | omega | (simp; done) | (simp; omega))
  subst c6
  go_enter Try.func79, Try.ntmps79
  go_wp2_with fail
  go_ret
  refine ⟨ret_bool (by simp), Cls.of ?_⟩
  repeat first | with_reducible exact Below.refl _ _ | with_reducible refine Below.setCell ?_ (by first | omega | (simp; done) | (simp; omega)) _ | with_reducible refine Below.alloc ?_ (by first | omega | (simp; done) | (simp; omega)) _ | with_reducible refine Below.drew ?_ | with_reducible refine Ext.on _ ?_ (by first | omega | (simp; done) | (simp; omega))
end Go.Proofs.Ytilhhbjdcdediaa
set_option linter.unusedVariables false
namespace Go.Proofs.Ytilhhbjdcdediaa
open Go Go.RowKit Go.Deep
/-- The function with one value changed. -/
def updI (f : Nat → Int) (v : Int) (x : Int) : Nat → Int := fun i => if (i : Int) = v then x else f i
mutual
/-- Whether a node is right between bounds. -/
def rtP (y : Sy) : Pf → (Nat → Int) → (Nat → Int) → Bool
  | .mk k mu mn md v bd ks l, lo, up =>
    if k = 1 then leafB (.mk k mu mn md v bd ks l) && cbB y mu.len mn md y.U.len lo y.U.len up
    else if k = 2 then leafB (.mk k mu mn md v bd ks l) && laB y mu.len mn md
    else if k = 3 then splitB y.U.len (.mk k mu mn md v bd ks l) && rtL y l lo (updI up v (min (up v.toNat) bd)) (updI lo v (max (lo v.toNat) (bd + 1))) up
    else false
def rtL (y : Sy) : List Pf → (Nat → Int) → (Nat → Int) → (Nat → Int) → (Nat → Int) → Bool
  | a :: l, lo1, up1, lo2, up2 => rtP y a lo1 up1 && rtM y l lo2 up2
  | [], _, _, _, _ => true
def rtM (y : Sy) : List Pf → (Nat → Int) → (Nat → Int) → Bool
  | a :: _, lo, up => rtP y a lo up
  | [], _, _ => true
end
theorem rtL_two (y : Sy) (l : List Pf) (lo1 up1 lo2 up2 : Nat → Int) (h : l.length = 2) : rtL y l lo1 up1 lo2 up2 = (rtP y (l.getD 0 Pf.z) lo1 up1 && rtP y (l.getD 1 Pf.z) lo2 up2) := by
  match l, h with
  | [a, b], _ => simp [rtL, rtM]
/-- A row of numbers in a block of its own. -/
def RowOwn (w : World) (b n : Nat) (f : Nat → Int) : Prop := w.heap[b]? = some (.cells (rowI f n).toArray 2)
theorem RowOwn.ints {w : World} {b n : Nat} {f : Nat → Int} (h : RowOwn w b n f) (hn : n ≤ 1000) : IntsA w ⟨some ⟨b, 0, none⟩, n, n⟩ f :=
  ⟨Nat.le_refl _, by show n ≤ maxLen; unfold maxLen; omega, .inr ⟨b, 0, rfl, (Array.getElem?_eq_some_iff.1 h).1, fun i hi => by
    rw [cell_of_row _ _ _ _ _ _ h, Nat.zero_add]
    have := rowI_at f (n := n) (i := i) hi
    simpa using this⟩⟩
theorem RowOwn.later {w w' : World} {b n : Nat} {f : Nat → Int} (h : RowOwn w b n f) (hb : Below w.heap.size w w') : RowOwn w' b n f := at_later h hb
theorem RowOwn.cell {w : World} {b n k : Nat} {f : Nat → Int} (h : RowOwn w b n f) (hk : k < n) : b < w.heap.size ∧ w.frozen? ⟨b, k, none⟩ = false ∧ w.cell? ⟨b, k, none⟩ = some (.int .i64 (f k)) := by
  have h' : w.heap[b]? = some (.cells (rowI f n).toArray 2) := h
  refine ⟨(Array.getElem?_eq_some_iff.1 h).1, by simp [World.frozen?, h'], ?_⟩
  rw [cell_of_row _ _ _ _ _ _ h]
  have := rowI_at f (n := n) (i := k) hk
  simpa using this
theorem RowOwn.set {w : World} {b n k : Nat} {f : Nat → Int} (h : RowOwn w b n f) (x : Int) : RowOwn (w.setCell ⟨b, k, none⟩ (.int .i64 x)) b n (updI f (k : Int) x) := by
  have := heap_setCell_same w b k _ _ (.int .i64 x) h
  unfold RowOwn
  rw [this]
  have e := rowI_set f n k x
  have e2 : (fun i => if i = k then x else f i) = updI f (k : Int) x := by
    funext i
    unfold updI
    by_cases h : i = k
    · rw [if_pos h, if_pos (by omega)]
    · rw [if_neg h, if_neg (by omega)]
  rw [e2] at e
  rw [← e]
  simp
theorem infoI6 : (Try.prog.info? 2).map (fun i => (i.zero, i.size, i.bytes)) = some (some (.int .i64 0), 1, 8) := by kernel_rfl
theorem make_ints (M : Nat) (hN : M ≤ 100000) (W : World) : Sem.run Try.prog (Instr.makeSlice 24 (.int .i64 (M : Int)) (.int .i64 (M : Int))) W = .ok (.slice (some ⟨W.heap.size, 0, none⟩) M M) (W.alloc (.cells (madeCells #[.int .i64 0] M) 2)) := by
  obtain ⟨i0, hi, hz0, hz1, hz2⟩ := info_parts infoI6
  have := run_make (P := Try.prog) W 24 2 i0 _ Try.underlying24 hi hz0 .i64 .i64 (M : Int) (M : Int) (by omega) (by omega) (by rw [hz2]; omega) (by omega)
  rw [hz1, show ((M : Int)).toNat = M by omega, Nat.mul_one] at this
  exact this
set_option maxHeartbeats 8000000 in
set_option maxRecDepth 20000 in
theorem copied_calls (a : Option Addr) (n c : Nat) (f : Nat → Int) (w : World) (h : IntsA w ⟨a, n, c⟩ f) (hn : n ≤ 1000) :
    Calls Try.prog 81 #[.slice a n c] w fun e w' => ∃ b : Nat, e = .returned (.slice (some ⟨b, 0, none⟩) n n) ∧ w.heap.size ≤ b ∧ RowOwn w' b n f ∧ Cls w w' := by
  obtain ⟨hle, hmax, hh⟩ := h
  unfold maxLen at hmax
  simp only at hle hmax hh
  have hmk := make_ints n (by omega)
  obtain ⟨i0, hi, hz0, hz1, hz2⟩ := info_parts infoI6
  have HL : Hid ((rowI f n).length = n) := Lib.hid (rowI_length f n)
  have HML : Hid ((madeCells #[.int .i64 0] n).toList.length = n) := Lib.hid (by have := size_madeCells #[.int .i64 0] n; simpa using this)
  have hcp : ∃ W2, Sem.run Try.prog (Builtin.copy_ #[24, 24] 3 #[.slice (some ⟨w.heap.size, 0, none⟩) n n, .slice a n c]) (w.alloc (.cells (madeCells #[.int .i64 0] n) 2)) = .ok (goInt n) W2 ∧ RowOwn W2 w.heap.size n f ∧ Below w.heap.size w W2 := by
    by_cases h0 : n = 0
    · subst h0
      refine ⟨_, run_copy_none _ _ _ _ 2 _ _ 0 0 0 c Try.underlying24 (by rw [hi, Option.map_some, hz1]) rfl, ?_, (Below.refl _ _).alloc (Nat.le_refl _) _⟩
      unfold RowOwn
      have e0 : madeCells #[Value.int .i64 0] 0 = #[] := Array.eq_empty_of_size_eq_zero (size_madeCells _ _)
      rw [heap_alloc_new w, e0]
      simp [rowI]
    · obtain ⟨b, off, ha, hb, hc⟩ := hh.resolve_left h0
      subst ha
      have hg := heap_alloc_new w (.cells (madeCells #[.int .i64 0] n) 2)
      have hsrc : ∀ j v, (rowI f n)[j]? = some v → (w.alloc (.cells (madeCells #[.int .i64 0] n) 2)).cell? ((⟨b, off, none⟩ : Addr).add j) = some v := fun j v hj => by
        have hjn : j < n := by have h := (List.getElem?_eq_some_iff.1 hj).1; rwa [rowI_length] at h
        rw [rowI_at _ hjn] at hj
        rw [addN, ((Below.refl w.heap.size w).alloc (Nat.le_refl _) _).cell (p := ⟨b, off + j, none⟩) hb, hc j hjn, hj]
      have hrun := run_copy_row (P := Try.prog) _ 24 24 3 2 w.heap.size 0 n n ⟨b, off, none⟩ n c (madeCells #[.int .i64 0] n) 2 (rowI f n) Try.underlying24 (by rw [hi, Option.map_some, hz1]) hg (by rw [HL.out]; exact (Nat.min_self n).symm) hsrc (by rw [HL.out, size_madeCells]; omega) (rowI_one f n)
      rw [HL.out] at hrun
      refine ⟨_, hrun, ?_, below_setRow ((Below.refl _ _).alloc (Nat.le_refl _) _) (Nat.le_refl _) _⟩
      unfold RowOwn
      rw [setRow_heap _ _ _ _ _ _ hg, List.take_zero, List.nil_append, Nat.zero_add, List.drop_of_length_le (by rw [HML.out]; exact Nat.le_refl _), List.append_nil]
  obtain ⟨W2, hcp, hw2, hb2⟩ := hcp
  have HW2 := Lib.hid hw2
  have HB2 := Lib.hid hb2
  clear hh hw2 hb2
  go_enter Try.func81, Try.ntmps81
  go_wp2_with fail
  go_ret
  exact ⟨w.heap.size, rfl, Nat.le_refl _, HW2.out, Cls.of HB2.out⟩
end Go.Proofs.Ytilhhbjdcdediaa
set_option linter.unusedVariables false
namespace Go.Proofs.Ytilhhbjdcdediaa
open Go Go.RowKit Go.Deep
/-- A row of numbers at the front of a block. -/
def RowC (w : World) (b n : Nat) (f : Nat → Int) : Prop := ∃ cs : Array Value, w.heap[b]? = some (.cells cs 2) ∧ n ≤ cs.size ∧ ∀ i, i < n → cs[i]? = some (.int .i64 (f i))
theorem RowC.lt {w : World} {b n : Nat} {f : Nat → Int} (h : RowC w b n f) : b < w.heap.size := by obtain ⟨cs, h1, _⟩ := h; exact (Array.getElem?_eq_some_iff.1 h1).1
theorem RowC.later {w w' : World} {b n : Nat} {f : Nat → Int} (h : RowC w b n f) (hb : Below w.heap.size w w') : RowC w' b n f := by obtain ⟨cs, h1, h2⟩ := h; exact ⟨cs, at_later h1 hb, h2⟩
theorem RowC.cell {w : World} {b n k : Nat} {f : Nat → Int} (h : RowC w b n f) (hk : k < n) : b < w.heap.size ∧ w.frozen? ⟨b, k, none⟩ = false ∧ w.cell? ⟨b, k, none⟩ = some (.int .i64 (f k)) := by
  obtain ⟨cs, h1, h2, h3⟩ := h
  exact ⟨(Array.getElem?_eq_some_iff.1 h1).1, by simp [World.frozen?, h1], by rw [cell_of_row _ _ _ _ _ _ h1]; exact h3 k hk⟩
theorem RowC.ints {w : World} {b n c : Nat} {f : Nat → Int} (h : RowC w b n f) (hc : n ≤ c) (hm : c ≤ maxLen) : IntsA w ⟨some ⟨b, 0, none⟩, n, c⟩ f := by
  obtain ⟨cs, h1, h2, h3⟩ := h
  refine ⟨hc, hm, .inr ⟨b, 0, rfl, (Array.getElem?_eq_some_iff.1 h1).1, fun i hi => ?_⟩⟩
  rw [cell_of_row _ _ _ _ _ _ h1, Nat.zero_add]
  exact h3 i hi
theorem RowC.set {w : World} {b n k : Nat} {f : Nat → Int} (h : RowC w b n f) (x : Int) : RowC (w.setCell ⟨b, k, none⟩ (.int .i64 x)) b n (updI f (k : Int) x) := by
  obtain ⟨cs, h1, h2, h3⟩ := h
  refine ⟨_, heap_setCell_same w b k _ _ (.int .i64 x) h1, by simpa using h2, fun i hi => ?_⟩
  unfold updI
  by_cases hik : i = k
  · subst hik
    rw [if_pos rfl]
    simp [show i < cs.size by omega]
  · rw [if_neg (by omega), Array.getElem?_setIfInBounds_ne (fun e => hik e.symm)]
    exact h3 i hi
theorem RowC.drew {w : World} {b n : Nat} {f : Nat → Int} (h : RowC w b n f) : RowC w.drew b n f := h
theorem RowC.other {w : World} {b b' n k : Nat} {f : Nat → Int} (h : RowC w b n f) (hne : b ≠ b') (v : Value) : RowC (w.setCell ⟨b', k, none⟩ v) b n f := by
  obtain ⟨cs, h1, h2⟩ := h
  exact ⟨cs, (heap_setCell_other _ _ _ _ (show b ≠ b' from hne)).trans h1, h2⟩
theorem clone_calls (f : Nat → Int) (a : Option Addr) (n c : Nat) (w : World) (hs : IntsA w ⟨a, n, c⟩ f) (h2 : n ≤ 1000) (h0 : 0 < n) :
    Calls Try.prog 66 #[.slice a n c] w fun e w' => ∃ g k : Nat, e = .returned (.slice (some ⟨g, 0, none⟩) n k) ∧ w.heap.size ≤ g ∧ n ≤ k ∧ k ≤ maxLen ∧ RowC w' g n f ∧ Cls w w' := by
  refine (lcloneI_calls f a n c w hs h2).mono fun e w' hh => ?_
  obtain ⟨s, he, hl, hown, hcl⟩ := hh
  rcases hown.2 with ⟨_, h0'⟩ | ⟨g, cap, cur, hv, hb, hg, hn, hc, hr, ht⟩
  · omega
  · have hcell : ∀ i, i < n → cur[i]? = some (.int .i64 (f i)) := fun i hi => by
      have q := World.ownsRow.cells hown (g := g) (by rw [hv]; rfl) i (.int .i64 (f i)) (rowI_at f hi)
      rw [add_none, Nat.zero_add, cell_of_row _ _ _ _ _ _ hg] at q
      exact q
    refine ⟨g, cap, by rw [he, hv], hb, hn, hc, ⟨_, hg, ?_, hcell⟩, hcl⟩
    have := (Array.getElem?_eq_some_iff.1 (hcell (n - 1) (by omega))).1
    omega
theorem six_n {W : World} {b : Nat} {a0 a1 a2 a3 a4 a5 : Value} {t : TypeId} (h : W.heap[b]? = some (.cells #[a0, a1, a2, a3, a4, a5] t)) : b < W.heap.size ∧ (W.frozen? ⟨b, 0, none⟩ = false ∧ W.frozen? ⟨b, 1, none⟩ = false ∧ W.frozen? ⟨b, 2, none⟩ = false ∧ W.frozen? ⟨b, 3, none⟩ = false ∧ W.frozen? ⟨b, 4, none⟩ = false ∧ W.frozen? ⟨b, 5, none⟩ = false) ∧ W.cell? ⟨b, 0, none⟩ = some a0 ∧ W.cell? ⟨b, 1, none⟩ = some a1 ∧ W.cell? ⟨b, 2, none⟩ = some a2 ∧ W.cell? ⟨b, 3, none⟩ = some a3 ∧ W.cell? ⟨b, 4, none⟩ = some a4 ∧ W.cell? ⟨b, 5, none⟩ = some a5 := by
  refine ⟨(Array.getElem?_eq_some_iff.1 h).1, ⟨?_, ?_, ?_, ?_, ?_, ?_⟩, ?_, ?_, ?_, ?_, ?_, ?_⟩ <;> first | (simp [World.frozen?, h]; done) | (rw [cell_of_row _ _ _ _ _ _ h]; rfl)
set_option maxHeartbeats 16000000 in
set_option maxRecDepth 20000 in
theorem divided_calls (la : Option Addr) (un lc : Nat) (lo : Nat → Int) (pa : Option Addr) (pc : Nat) (up : Nat → Int) (d : Int) (vn : Nat) (pb : Int) (w : World) (hl : IntsA w ⟨la, un, lc⟩ lo) (hp : IntsA w ⟨pa, un, pc⟩ up) (hun : un ≤ 15) (hvn : vn < un) (hpb : 0 ≤ pb ∧ pb ≤ 1000000000) (hd : 0 ≤ d ∧ d ≤ 1000) :
    Calls Try.prog 80 #[.agg #[.slice la un lc, .slice pa un pc, .int .i64 d], .int .i64 (vn : Int), .int .i64 pb] w fun e w' => ∃ b1 c1 b2 c2 : Nat, e = .returned (.agg #[.slice la un lc, .slice (some ⟨b2, 0, none⟩) un c2, .int .i64 (d + 1), .slice (some ⟨b1, 0, none⟩) un c1, .slice pa un pc, .int .i64 (d + 1)]) ∧
      (IntsA w' ⟨some ⟨b1, 0, none⟩, un, c1⟩ (updI lo (vn : Int) (max (lo vn) (pb + 1))) ∧ IntsA w' ⟨some ⟨b2, 0, none⟩, un, c2⟩ (updI up (vn : Int) (min (up vn) pb))) ∧ Cls w w' := by
  have CL1 := Lib.hid (fun (W : World) (hb : Below w.heap.size w W) => clone_calls lo la un lc W (hl.later hb) (by omega) (by omega))
  have CL2 := Lib.hid (fun (W : World) (hb : Below w.heap.size w W) => clone_calls up pa un pc W (hp.later hb) (by omega) (by omega))
  have hwp : IntKind.i64.wrap (pb + 1) = pb + 1 := (by rw [IntKind.wrap_i64]; omega)
  have hwd : IntKind.i64.wrap (d + 1) = d + 1 := (by rw [IntKind.wrap_i64]; omega)
  clear hl hp
  go_enter Try.func80, Try.ntmps80
  go_wp2_with fail
  refine wp_at (fun W => Below w.heap.size w W ∧ W.heap[w.heap.size]? = some (.cells #[.slice la un lc, .slice pa un pc, .int .i64 d] 88) ∧ W.heap[w.heap.size + 1]? = some (.cells #[.slice none 0 0, .slice none 0 0, .int .i64 0, .slice none 0 0, .slice none 0 0, .int .i64 0] 111)) ⟨(by repeat first | with_reducible exact Below.refl _ _ | with_reducible refine Below.setCell ?_ (by first | omega | (simp; done) | (simp; omega)) _ | with_reducible refine Below.alloc ?_ (by first | omega | (simp; done) | (simp; omega)) _ | with_reducible refine Below.drew ?_ | with_reducible refine Ext.on _ ?_ (by first | omega | (simp; done) | (simp; omega))), heap_two0 w _ _, heap_two1 w _ _⟩ ?_
  rintro W5 ⟨hB5, hs5, hz5⟩
  have HB5 := Lib.hid hB5
  have hB5s := hB5.size
  obtain ⟨hx0, c0, c1, c2⟩ := three_s hs5
  clear hB5 hs5
  have hz5 := Lib.hid hz5
  have hz5l := (Array.getElem?_eq_some_iff.1 hz5.out).1
  refine wp_region_invs (x := (⟨W5, Below.refl _ _⟩ : Ext W5)) 6 ⟨fun j u W => match j with
  | 0 => u = .pointer (some ⟨w.heap.size, 0, none⟩)
  | 1 => u = .slice la un lc
  | 2 => ∃ (g c : Nat), u = .slice (some ⟨g, 0, none⟩) un c ∧ un ≤ c ∧ c ≤ maxLen ∧ RowC W g un lo ∧ W5.heap.size ≤ g
  | 3 => u = .pointer (some ⟨w.heap.size, 1, none⟩)
  | 4 => u = .slice pa un pc
  | 5 => ∃ (g c : Nat), u = .slice (some ⟨g, 0, none⟩) un c ∧ un ≤ c ∧ c ≤ maxLen ∧ RowC W g un up ∧ W5.heap.size ≤ g
  | _ => True,
fun j u W => match j with
  | 2 => ∃ g c : Nat, u = .slice (some ⟨g, 0, none⟩) un c ∧ W.heap.size ≤ g
  | 5 => ∃ g c : Nat, u = .slice (some ⟨g, 0, none⟩) un c ∧ W.heap.size ≤ g
  | _ => True,
fun i j u v => i = 2 → j = 5 → ∀ g c g2 c2 : Nat, u = .slice (some ⟨g, 0, none⟩) un c → v = .slice (some ⟨g2, 0, none⟩) un c2 → g ≠ g2⟩ 49 (by kernel_rfl) rfl (by kernel_rfl) (fun j u W1 W2 hcc => by
  match j with
  | 0 => exact id
  | 1 => exact id
  | 2 => rintro ⟨g, c, h1, h2, h3, h4, h5⟩; exact ⟨g, c, h1, h2, h3, h4.later hcc.below, h5⟩
  | 3 => exact id
  | 4 => exact id
  | 5 => rintro ⟨g, c, h1, h2, h3, h4, h5⟩; exact ⟨g, c, h1, h2, h3, h4.later hcc.below, h5⟩
  | _ + 6 => exact id) (fun i j u v W h1 h2 => ⟨?_, ?_⟩) ?_
  · rintro rfl rfl g c g2 c2 rfl rfl
    obtain ⟨q1, q2, e1, h3⟩ := h1
    obtain ⟨r1, r2, e2, _, _, h4, _⟩ := h2
    have := h4.lt
    cases e1
    cases e2
    omega
  · rintro rfl rfl g c g2 c2 rfl rfl
    obtain ⟨q1, q2, e1, h3⟩ := h1
    obtain ⟨r1, r2, e2, _, _, h4, _⟩ := h2
    have := h4.lt
    cases e1
    cases e2
    omega
  · refine inv_step (fun W hW hd K hK => ?_) (fun v0 aq hq => ?_)
    · obtain ⟨y, rfl⟩ := hW
      have ys := y.size
      have HK := Lib.hid hK
      clear hd hK
      go_wp2_with fail
      exact HK.out _ _ rfl ⟨⟨y, rfl⟩, ⟨⟨y.val, Below.refl _ _⟩, rfl⟩⟩ rfl trivial
    simp only [Act.put, List.setIfInBounds_toArray, List.set_cons_zero, List.set_cons_succ] at hq
    subst hq
    refine inv_step (fun W hW hd K hK => ?_) (fun v1 aq hq => ?_)
    · obtain ⟨y, rfl⟩ := hW
      have ys := y.size
      have HK := Lib.hid hK
      obtain rfl : v0 = .pointer (some ⟨w.heap.size, 0, none⟩) := hd 0 (by kernel_rfl)
      clear hd hK
      go_wp2_with fail
      exact HK.out _ _ rfl ⟨⟨y, rfl⟩, ⟨⟨y.val, Below.refl _ _⟩, rfl⟩⟩ rfl trivial
    simp only [Act.put, List.setIfInBounds_toArray, List.set_cons_zero, List.set_cons_succ] at hq
    subst hq
    refine inv_step (fun W hW hd K hK => ?_) (fun v2 aq hq => ?_)
    · obtain ⟨y, rfl⟩ := hW
      have ys := y.size
      have HK := Lib.hid hK
      obtain rfl : v1 = .slice la un lc := hd 1 (by kernel_rfl)
      clear hd hK
      go_wp2_with (go_at_call 66; (with_reducible refine Calls.mono (CL1.out y.val (y.on HB5.out (by omega))) ?_); rintro e _ ⟨g, c, rfl, hg1, hg2, hg3, hg4, ⟨z, rfl⟩⟩)
      exact HK.out _ _ rfl ⟨Cls.step y ⟨z, rfl⟩, ⟨z, rfl⟩⟩ ⟨g, c, rfl, hg2, hg3, hg4, by omega⟩ ⟨g, c, rfl, hg1⟩
    simp only [Act.put, List.setIfInBounds_toArray, List.set_cons_zero, List.set_cons_succ] at hq
    subst hq
    refine inv_step (fun W hW hd K hK => ?_) (fun v3 aq hq => ?_)
    · obtain ⟨y, rfl⟩ := hW
      have ys := y.size
      have HK := Lib.hid hK
      clear hd hK
      go_wp2_with fail
      exact HK.out _ _ rfl ⟨⟨y, rfl⟩, ⟨⟨y.val, Below.refl _ _⟩, rfl⟩⟩ rfl trivial
    simp only [Act.put, List.setIfInBounds_toArray, List.set_cons_zero, List.set_cons_succ] at hq
    subst hq
    refine inv_step (fun W hW hd K hK => ?_) (fun v4 aq hq => ?_)
    · obtain ⟨y, rfl⟩ := hW
      have ys := y.size
      have HK := Lib.hid hK
      obtain rfl : v3 = .pointer (some ⟨w.heap.size, 1, none⟩) := hd 3 (by kernel_rfl)
      clear hd hK
      go_wp2_with fail
      exact HK.out _ _ rfl ⟨⟨y, rfl⟩, ⟨⟨y.val, Below.refl _ _⟩, rfl⟩⟩ rfl trivial
    simp only [Act.put, List.setIfInBounds_toArray, List.set_cons_zero, List.set_cons_succ] at hq
    subst hq
    refine inv_step (fun W hW hd K hK => ?_) (fun v5 aq hq => ?_)
    · obtain ⟨y, rfl⟩ := hW
      have ys := y.size
      have HK := Lib.hid hK
      obtain rfl : v4 = .slice pa un pc := hd 4 (by kernel_rfl)
      clear hd hK
      go_wp2_with (go_at_call 66; (with_reducible refine Calls.mono (CL2.out y.val (y.on HB5.out (by omega))) ?_); rintro e _ ⟨g, c, rfl, hg1, hg2, hg3, hg4, ⟨z, rfl⟩⟩)
      exact HK.out _ _ rfl ⟨Cls.step y ⟨z, rfl⟩, ⟨z, rfl⟩⟩ ⟨g, c, rfl, hg2, hg3, hg4, by omega⟩ ⟨g, c, rfl, hg1⟩
    simp only [Act.put, List.setIfInBounds_toArray, List.set_cons_zero, List.set_cons_succ] at hq
    subst hq
    refine inv_nil fun W hW hT hR => ?_
    obtain ⟨y, rfl⟩ := hW
    have ys := y.size
    obtain ⟨b1, c1, rfl, hc1, hm1, hr1, hg1⟩ : ∃ (g c : Nat), v2 = .slice (some ⟨g, 0, none⟩) un c ∧ un ≤ c ∧ c ≤ maxLen ∧ RowC y.val g un lo ∧ W5.heap.size ≤ g := hT 2 (by decide)
    obtain ⟨b2, c2, rfl, hc2, hm2, hr2, hg2⟩ : ∃ (g c : Nat), v5 = .slice (some ⟨g, 0, none⟩) un c ∧ un ≤ c ∧ c ≤ maxLen ∧ RowC y.val g un up ∧ W5.heap.size ≤ g := hT 5 (by decide)
    have hne : b1 ≠ b2 := hR 2 5 (by decide) (by decide) (by decide) rfl rfl _ _ _ _ rfl rfl
    clear hT hR
    have HM1 := Lib.hid hm1
    have HM2 := Lib.hid hm2
    unfold maxLen at hm1 hm2
    obtain ⟨hl1, fz1, cv1⟩ := hr1.cell hvn
    obtain ⟨hl2, fz2, cv2⟩ := hr2.cell hvn
    have HRW1 := Lib.hid hr1
    have HRW2 := Lib.hid hr2
    have hy5 := (y.below.block _ (Array.getElem?_eq_some_iff.1 hz5.out).1).trans hz5.out
    obtain ⟨hz0, ⟨z0, z1, z2, z3, z4, z5⟩, w0, w1, w2, w3, w4, w5⟩ := six_n hy5
    have n1 : w.heap.size + 1 ≠ b1 := (by omega)
    have n2 : w.heap.size + 1 ≠ b2 := (by omega)
    have n3 : b1 ≠ w.heap.size + 1 := (by omega)
    have n4 : b2 ≠ w.heap.size + 1 := (by omega)
    have EX1 : Hid (max (lo vn) (pb + 1) = if lo vn < pb + 1 then pb + 1 else lo vn) := Lib.hid (by split <;> omega)
    have EX2 : Hid (min (up vn) pb = if pb < up vn then pb else up vn) := Lib.hid (by split <;> omega)
    clear hr1 hr2
    go_wp2_with fail
    go_region
    all_goals
      go_wp2_with fail
      all_goals
        refine ret_ex rfl ⟨.agg #[.slice la un lc, .slice (some ⟨b2, 0, none⟩) un c2, .int .i64 (d + 1), .slice (some ⟨b1, 0, none⟩) un c1, .slice pa un pc, .int .i64 (d + 1)], by simp [results, Try.results80, go_sem, w0, w1, w2, w3, w4, w5], ⟨b1, c1, b2, c2, rfl, ⟨?_, ?_⟩, Cls.of ?_⟩⟩
        · refine RowC.ints ?_ hc1 HM1.out
          refine RowC.drew ?_
          repeat (refine RowC.other ?_ (by omega) _)
          first
            | (rw [show max (lo vn) (pb + 1) = pb + 1 by omega]; exact HRW1.out.set _)
            | (rw [show max (lo vn) (pb + 1) = lo vn by omega]; exact HRW1.out.set _)
        · refine RowC.ints ?_ hc2 HM2.out
          refine RowC.drew ?_
          iterate 6 (refine RowC.other ?_ (by omega) _)
          first
            | (rw [show min (up vn) pb = pb by omega]; exact (HRW2.out.other hne.symm _).set _)
            | (rw [show min (up vn) pb = up vn by omega]; exact (HRW2.out.other hne.symm _).set _)
        · repeat first | with_reducible exact Below.refl _ _ | with_reducible refine Below.setCell ?_ (by first | omega | (simp; done) | (simp; omega)) _ | with_reducible refine Below.alloc ?_ (by first | omega | (simp; done) | (simp; omega)) _ | with_reducible refine Below.drew ?_ | with_reducible refine Ext.on _ ?_ (by first | omega | (simp; done) | (simp; omega))
          exact HB5.out
end Go.Proofs.Ytilhhbjdcdediaa
