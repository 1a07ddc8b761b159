/-
  The reference's CheckLattice, where its Combine gives what the program's gives. Systems and lists of fractions that came in: what they hold. And the law's Few. The law's same: two lists of the same fractions. Lists of numbers opened, and systems that are written out: one variable, one row. A tape of numbers: worlds that are later ones but for the place of the tape, and what its next number is.
-/
import Derived.Test.YthbdkhmgopahbaaJ25
import Derived.Test.YthbdkhmgopahbaaJ09
import Derived.Deep.Slices
import Derived.Deep.Strs
import Derived.Deep.Fields
import Derived.ProofKit
import Derived.ChangeSame
import Derived.Lib.SmallJoins
import Derived.Laws.StructEq
import Derived.Test.YthbdkhmgopahbaaJ27
import Derived.Test.YthbdkhmgopahbaaChecked
import Derived.Test.YthbdkhmgopahbaaJ16
import Derived.Laws.AppendOwn
import Derived.Lib.Hide
import Derived.LoopTactic
import Derived.BigQuiet
import Derived.Deep.QuietTactic
set_option linter.unusedVariables false
namespace Go.Proofs.Ythbdkhmgopahbaa
open Go Go.RowKit Go.Deep
set_option maxHeartbeats 8000000 in
set_option maxRecDepth 20000 in
theorem rLattice_calls (y : Sy) (a : Option Addr) (n c : Nat) (mn md : Nat → Int) (w : World) (RC : ∀ W, Below w.heap.size w W → Calls Try.prog 10 #[y.v, .slice a n c] W (CmbR y n mn md W)) :
    Calls Try.prog 13 #[y.v, .slice a n c] w fun e w' => e = .returned (.bool (laB y n mn md)) ∧ Cls w w' := by
  have C0 := Lib.hid RC
  clear RC
  unfold laB
  by_cases hce : cmE y n mn md = 0
  · have C1 : Hid (∀ W, Below w.heap.size w W → Calls Try.prog 10 #[y.v, .slice a n c] W fun e w' => ∃ (a : Option Addr) (c : Nat), e = .returned (.tuple #[.slice a y.U.len c, .agg #[.int .i64 (crN y n mn md), .int .i64 (crD y n mn md)], .int .i64 0]) ∧ FrsA w' ⟨a, y.U.len, c⟩ (cbN y n mn md) (cbD y n mn md) ∧ Cls W w') := Lib.hid fun W hb => (C0.out W hb).mono fun e w' hh => hh.yes hce
    rw [hce]
    obtain ⟨p, hp⟩ : ∃ p : Nat → Bool, (fun k => cbD y n mn md k != 1) = p := ⟨_, rfl⟩
    have EX : Hid (∀ i, (cbD y n mn md i != 1) = p i) := Lib.hid fun i => congrFun hp i
    rw [hp]
    unfold Sy.v at *
    clear C0 hce hp
    generalize cbN y n mn md = fN at *
    generalize crN y n mn md = rN at *
    generalize cbD y n mn md = fD at *
    generalize crD y n mn md = rD at *
    generalize y.U.a = ua at *
    generalize y.U.len = un at *
    generalize y.U.cap = uc at *
    generalize y.R.a = ra at *
    generalize y.R.len = rn at *
    generalize y.R.cap = rc at *
    generalize y.B.a = ba at *
    generalize y.B.len = bn at *
    generalize y.B.cap = bc at *
    go_enter Try.func13, Try.ntmps13
    go_wp2_with (go_at_call 10; (with_reducible refine Calls.mono (C1.out _ ?_) ?_); (focus (repeat first | with_reducible exact Below.refl _ _ | with_reducible refine Below.setCell ?_ (by first | omega | (simp; done) | (simp; omega)) _ | with_reducible refine Below.alloc ?_ (by first | omega | (simp; done) | (simp; omega)) _ | with_reducible refine Below.drew ?_ | with_reducible refine Ext.on _ ?_ (by first | omega | (simp; done) | (simp; omega)))); rintro e _ ⟨sa, sc, rfl, hf, ⟨x, rfl⟩⟩; have xs := x.size; (try simp at xs); have HF := Lib.hid hf; clear hf)
    have hfl := HF.out.1
    have hfm := HF.out.2.1
    unfold maxLen at hfm
    simp only at hfl hfm
    have HX := Lib.hid HF.out.2.2
    go_loopw [8] (fun i wr => ∃ j : Nat, j ≤ un ∧ i = .int .i64 j ∧ Hid (fstI p 0 un = fstI p j (un - j)) ∧ Cls (x.val.alloc (.cells #[.int .i64 rN, .int .i64 rD] 34)) wr) (fun i _ => un - (intOf i).toNat)
    case atStart => exact ⟨0, Nat.zero_le _, rfl, Lib.hid rfl, Cls.of (Below.refl _ _)⟩
    case round =>
      obtain ⟨j, hj, rfl, HE, z, rfl⟩ := hrel
      have zs := z.size
      simp at zs
      by_cases hltj : j < un
      · obtain ⟨b, off, ha, hb2, hc⟩ := HX.out.resolve_left (by show ¬ un = 0; omega)
        have ha' : sa = some ⟨b, off, none⟩ := ha
        subst ha'
        obtain ⟨r0, r1⟩ := hc j hltj
        have q1 := (z.below.cell (p := ⟨b, off + j * 2 + 1, none⟩) (by simp; omega)).trans (((Below.refl x.val.heap.size x.val).alloc (Nat.le_refl _) _).cell (p := ⟨b, off + j * 2 + 1, none⟩) hb2 |>.trans r1)
        have hbx : b < z.val.heap.size := by omega
        have EXj := EX.out j
        clear hc r0 r1 ha HX HF EX
        generalize fD j = v at *
        cases hbb : p j
        · rw [hbb] at EXj
          have HN : Hid (fstI p 0 un = fstI p (j + 1) (un - (j + 1))) := Lib.hid (by rw [HE.out, show un - j = (un - (j + 1)) + 1 by omega, fstI_go hbb])
          clear hbb HE
          go_wp2_with fail
          go_roundw
          case rel => exact ⟨j + 1, by omega, by go_num, HN, z, rfl⟩
          case measure => simp [intOf]; omega
        · rw [hbb] at EXj
          have HV : Hid (anyB p un = true) := Lib.hid (anyB_iff.2 ⟨j, hltj, hbb⟩)
          clear hbb HE
          go_wp2_with fail
          go_ret
          refine ⟨ret_bool (by rw [HV.out]; simp), Cls.of ?_⟩
          repeat first | with_reducible exact Below.refl _ _ | with_reducible refine Below.setCell ?_ (by first | omega | (simp; done) | (simp; omega)) _ | with_reducible refine Below.alloc ?_ (by first | omega | (simp; done) | (simp; omega)) _ | with_reducible refine Below.drew ?_ | with_reducible refine Ext.on _ ?_ (by first | omega | (simp; done) | (simp; omega))
      · have HV : Hid (anyB p un = false) := Lib.hid (by unfold anyB; rw [HE.out, show un - j = 0 by omega]; rfl)
        have hb0 := (z.below.block x.val.heap.size (by simp)).trans (heap_alloc_new x.val _)
        obtain ⟨hz0, _, _, e0, e1⟩ := two_n hb0
        clear hb0 HE
        go_wp2_with fail
        go_ret
        refine ⟨ret_bool (by rw [HV.out]; simp), Cls.of ?_⟩
        repeat first | with_reducible exact Below.refl _ _ | with_reducible refine Below.setCell ?_ (by first | omega | (simp; done) | (simp; omega)) _ | with_reducible refine Below.alloc ?_ (by first | omega | (simp; done) | (simp; omega)) _ | with_reducible refine Below.drew ?_ | with_reducible refine Ext.on _ ?_ (by first | omega | (simp; done) | (simp; omega))
  · have C1 : Hid (∀ W, Below w.heap.size w W → Calls Try.prog 10 #[y.v, .slice a n c] W fun e w' => e = .returned (.tuple #[.slice none 0 0, .agg #[.int .i64 0, .int .i64 0], .int .i64 (cmE y n mn md)]) ∧ Cls W w') := Lib.hid fun W hb => (C0.out W hb).mono fun e w' hh => hh.no hce
    have d0 : (cmE y n mn md == 0) = false := by simpa using hce
    have d1 : (cmE y n mn md != 0) = true := by simpa using hce
    rw [d0]
    unfold Sy.v at *
    clear C0 hce
    generalize cmE y n mn md = ce at *
    generalize y.U.a = ua at *
    generalize y.U.len = un at *
    generalize y.U.cap = uc at *
    generalize y.R.a = ra at *
    generalize y.R.len = rn at *
    generalize y.R.cap = rc at *
    generalize y.B.a = ba at *
    generalize y.B.len = bn at *
    generalize y.B.cap = bc at *
    go_enter Try.func13, Try.ntmps13
    go_wp2_with (go_at_call 10; (with_reducible refine Calls.mono (C1.out _ ?_) ?_); (focus (repeat first | with_reducible exact Below.refl _ _ | with_reducible refine Below.setCell ?_ (by first | omega | (simp; done) | (simp; omega)) _ | with_reducible refine Below.alloc ?_ (by first | omega | (simp; done) | (simp; omega)) _ | with_reducible refine Below.drew ?_ | with_reducible refine Ext.on _ ?_ (by first | omega | (simp; done) | (simp; omega)))); rintro e _ ⟨rfl, ⟨x, rfl⟩⟩; have xs := x.size; (try simp at xs))
    go_ret
    refine ⟨rfl, Cls.of ?_⟩
    repeat first | with_reducible exact Below.refl _ _ | with_reducible refine Below.setCell ?_ (by first | omega | (simp; done) | (simp; omega)) _ | with_reducible refine Below.alloc ?_ (by first | omega | (simp; done) | (simp; omega)) _ | with_reducible refine Below.drew ?_ | with_reducible refine Ext.on _ ?_ (by first | omega | (simp; done) | (simp; omega))
end Go.Proofs.Ythbdkhmgopahbaa
set_option linter.unusedVariables false
namespace Go.Proofs.Ythbdkhmgopahbaa
open Go Go.RowKit Go.ChangeShapes Go.WideShapes Go.Deep Go.Joins
instance : Inhabited Sl := ⟨⟨none, 0, 0⟩⟩
theorem In64.ofw {n : Int} (h : (Lit.int .i64 n).wf = true) : In64 n := by
  simp [Lit.wf, IntKind.min, IntKind.max, IntKind.bits, IntKind.signed] at h
  unfold In64; omega
theorem cell_lt {w : World} {p : Addr} {v : Value} (h : w.cell? p = some v) : p.block < w.heap.size := by
  rcases Nat.lt_or_ge p.block w.heap.size with h' | h'
  · exact h'
  · simp [World.cell?, Array.getElem?_eq_none h'] at h
theorem spot_none {w : World} {b off : Nat} {spot} {v : Value} (h : w.cell? ((⟨b, off, spot⟩ : Addr).add 0) = some v) : spot = none := by simpa [Addr.add] using World.cell?_spot h
theorem addN (b off j : Nat) : (⟨b, off, none⟩ : Addr).add j = ⟨b, off + j, none⟩ := by unfold Addr.add; split <;> simp_all
section
variable {H : Type} {enc : TypeId × Value → H} {w : World} {base : Nat} {spare : Nat → Bool} {held : Bool}
theorem ints_of {fuel : Nat} {cs : List Value} {x : DataW H × List MemPlace} (h : DataW.trod enc Try.prog w base spare held fuel 24 cs = some x) :
    ∃ (s : Sl) (f : Nat → Int), cs = [.slice s.a s.len s.cap] ∧ IntsA w s f ∧ ∀ i, i < s.len → In64 (f i) := by
  rcases Go.Deep.open_slice1 Try.underlying24 (by kernel_rfl) h with ⟨hcs, _⟩ | ⟨a, len, cap, m, n, V, D, Pl, hcs, hb, hl, hm, hmm, _, hi⟩
  · exact ⟨⟨none, 0, 0⟩, fun _ => 0, hcs, ⟨Nat.le_refl _, Nat.zero_le _, .inl rfl⟩, fun i hi => absurd hi (Nat.not_lt_zero _)⟩
  · have hel : ∀ i, i < len → ∃ k : Int, w.cell? (a.add i) = some (.int .i64 k) ∧ In64 k := fun i hil => by
      obtain ⟨h1, h2⟩ := hi i (by rw [hmm]; split <;> omega)
      obtain ⟨k, e, _, hw⟩ := DataW.trod_int Try.underlying2 h2
      simp at e
      exact ⟨k, by rw [h1, e], In64.ofw hw⟩
    obtain ⟨f, hf⟩ := choose_lt hel
    refine ⟨⟨some a, len, cap⟩, f, hcs, ⟨hl, hm, ?_⟩, fun i hi => (hf i hi).2⟩
    by_cases h0 : len = 0
    · exact .inl h0
    · obtain ⟨b, off, spot⟩ := a
      have hz := (hf 0 (by omega)).1
      obtain rfl := spot_none hz
      rw [addN] at hz
      exact .inr ⟨b, off, rfl, cell_lt hz, fun i hi => by have := (hf i hi).1; rwa [addN] at this⟩
theorem rows_of {fuel : Nat} {cs : List Value} {x : DataW H × List MemPlace} (h : DataW.trod enc Try.prog w base spare held fuel 28 cs = some x) :
    ∃ (s : Sl) (r : Nat → Sl) (f : Nat → Nat → Int), cs = [.slice s.a s.len s.cap] ∧ RowsA w s r f := by
  rcases Go.Deep.open_slice1 Try.underlying28 (by kernel_rfl) h with ⟨hcs, _⟩ | ⟨a, len, cap, m, n, V, D, Pl, hcs, hb, hl, hm, hmm, _, hi⟩
  · exact ⟨⟨none, 0, 0⟩, fun _ => ⟨none, 0, 0⟩, fun _ _ => 0, hcs, Nat.le_refl _, Nat.zero_le _, fun i hi => absurd hi (Nat.not_lt_zero _), .inl rfl⟩
  · have hel : ∀ i, i < len → ∃ k : Sl × (Nat → Int), w.cell? (a.add i) = some (.slice k.1.a k.1.len k.1.cap) ∧ IntsA w k.1 k.2 := fun i hil => by
      obtain ⟨h1, h2⟩ := hi i (by rw [hmm]; split <;> omega)
      obtain ⟨s, f, e, hs, _⟩ := ints_of h2
      simp at e
      exact ⟨⟨s, f⟩, by rw [h1, e], hs⟩
    obtain ⟨f, hf⟩ := choose_lt hel
    refine ⟨⟨some a, len, cap⟩, fun i => (f i).1, fun i => (f i).2, hcs, hl, hm, fun i hi => (hf i hi).2, ?_⟩
    by_cases h0 : len = 0
    · exact .inl h0
    · obtain ⟨b, off, spot⟩ := a
      have hz := (hf 0 (by omega)).1
      obtain rfl := spot_none hz
      rw [addN] at hz
      exact .inr ⟨b, off, rfl, cell_lt hz, fun i hi => by have := (hf i hi).1; rwa [addN] at this⟩
theorem cellsSys : Try.prog.cellsOf 30 = 3 := by kernel_rfl
theorem cellsFrac : Try.prog.cellsOf 34 = 2 := by kernel_rfl
theorem cellsI64 : Try.prog.cellsOf 2 = 1 := by kernel_rfl
set_option maxRecDepth 20000 in
theorem open_sys {r : Reach} {b0 : Nat} {v : Value} {d : DataW H} {p : List MemPlace} (hval : Value.okWide Try.prog w r b0 30 v) (h : DataW.Trod enc Try.prog w base spare held 30 v d p) :
    ∃ y : Sy, v = y.v ∧ SysA w y := by
  obtain ⟨x, y, z, e, f, g, m, rfl, _, _, t, u, s⟩ := open_agg3 Try.underlying30 (by kernel_rfl) cellsSys hval h
  obtain ⟨s1, f1, e1, k1, _⟩ := ints_of t
  obtain ⟨s2, r2, f2, e2, k2⟩ := rows_of u
  obtain ⟨s3, f3, e3, k3, _⟩ := ints_of s
  simp at e1 e2 e3
  subst e1 e2 e3
  exact ⟨⟨s1, s2, s3, f1, r2, f2, f3⟩, rfl, ⟨k1, k2, k3⟩⟩
theorem list2 {α : Type} {l : List α} (h : l.length = 2) : ∃ a b, l = [a, b] := by
  match l, h with
  | [a, b], _ => exact ⟨a, b, rfl⟩
set_option maxRecDepth 20000 in
theorem open_frs {r : Reach} {b0 : Nat} {v : Value} {d : DataW H} {p : List MemPlace} (hval : Value.okWide Try.prog w r b0 23 v) (h : DataW.Trod enc Try.prog w base spare held 23 v d p) :
    ∃ (s : Sl) (f g : Nat → Int), v = .slice s.a s.len s.cap ∧ FrsA w s f g ∧ ∀ i, i < s.len → In64 (f i) ∧ In64 (g i) := by
  obtain ⟨a, len, cap, rfl⟩ := okWide_slice Try.underlying23 hval
  obtain ⟨fuel, hf⟩ := h
  rcases Go.Deep.open_slice Try.underlying23 hf with ⟨hcs, _⟩ | ⟨x, l', c', m, n, D, Pl, hcs, hb, hl, hm, hmm, _, hi⟩
  · simp [Value.cells] at hcs
    obtain ⟨rfl, rfl, rfl⟩ := hcs
    exact ⟨⟨none, 0, 0⟩, fun _ => 0, fun _ => 0, rfl, ⟨Nat.le_refl _, Nat.zero_le _, .inl rfl⟩, fun i hi => absurd hi (Nat.not_lt_zero _)⟩
  · simp [Value.cells] at hcs
    obtain ⟨rfl, rfl, rfl⟩ := hcs
    have hel : ∀ i, i < len → ∃ u : Int × Int, w.cell? (x.add (i * 2)) = some (.int .i64 u.1) ∧ w.cell? (x.add (i * 2 + 1)) = some (.int .i64 u.2) ∧ In64 u.1 ∧ In64 u.2 := fun i hil => by
      obtain ⟨cs', hc, ht⟩ := hi i (by rw [hmm]; split <;> omega)
      rw [cellsFrac] at hc
      obtain ⟨_, hcl, hat⟩ := World.cells?_some hc
      obtain ⟨c0, c1, rfl⟩ := list2 hcl
      obtain ⟨y0, y1, n', _, _, t0, t1⟩ := trod_struct2 Try.underlying34 ht
      rw [cellsI64] at t0 t1
      obtain ⟨k, e0, _, w0⟩ := DataW.trod_int Try.underlying2 t0
      obtain ⟨nn, e1, _, w1⟩ := DataW.trod_int Try.underlying2 t1
      simp at e0 e1
      subst e0 e1
      have a0 := hat 0 (by omega)
      have a1 := hat 1 (by omega)
      rw [Go.Deep.add_add] at a0 a1
      exact ⟨⟨k, nn⟩, a0, a1, In64.ofw w0, In64.ofw w1⟩
    obtain ⟨u, hu⟩ := choose_lt hel
    refine ⟨⟨some x, len, cap⟩, fun i => (u i).1, fun i => (u i).2, rfl, ⟨hl, hm, ?_⟩, fun i hi => (hu i hi).2.2⟩
    by_cases h0 : len = 0
    · exact .inl h0
    · obtain ⟨b, off, spot⟩ := x
      have hz := (hu 0 (by omega)).1
      obtain rfl := spot_none hz
      rw [addN] at hz
      exact .inr ⟨b, off, rfl, cell_lt hz, fun i hi => by obtain ⟨q1, q2, _⟩ := hu i hi; rw [addN] at q1 q2; exact ⟨q1, by rw [Nat.add_assoc]; exact q2⟩⟩
end
/-- What the law's Few says of a system that it lets through. -/
def FewOk (y : Sy) : Prop := y.U.len ≤ 12 ∧ y.R.len ≤ 8 ∧ y.B.len ≤ 12 ∧ ∀ i, i < y.R.len → (y.row i).len ≤ 12
set_option maxHeartbeats 16000000 in
set_option maxRecDepth 20000 in
theorem Few_calls (y : Sy) (w : World) (h : SysA w y) :
    Calls Try.prog 16 #[y.v] w fun e w' => ∃ b, e = .returned (.bool b) ∧ (b = true → FewOk y) ∧ Cls w w' := by
  obtain ⟨_, um, _⟩ := h.U
  obtain ⟨_, rm, hrow, hr⟩ := h.R
  obtain ⟨_, bm, _⟩ := h.B
  unfold maxLen at um rm bm
  unfold Sy.v FewOk
  have HR := Lib.hid hr
  have HRW := Lib.hid hrow
  clear hr hrow h
  obtain ⟨⟨ua, un, uc⟩, ⟨ra, rn, rc⟩, ⟨ba, bn, bc⟩, up, row, co, rt⟩ := y
  simp only at *
  by_cases h1 : un ≤ 12
  case neg =>
    have d1 : decide ((12 : Int) < ((un : Nat) : Int)) = true := decide_eq_true (by omega)
    clear HR HRW
    go_enter Try.func16, Try.ntmps16
    go_wp2_with fail
    go_ret
    refine ⟨false, rfl, (fun h => by cases h), Cls.of ?_⟩
    repeat first | with_reducible exact Below.refl _ _ | with_reducible refine Below.setCell ?_ (by first | omega | (simp; done) | (simp; omega)) _ | with_reducible refine Below.alloc ?_ (by first | omega | (simp; done) | (simp; omega)) _ | with_reducible refine Below.drew ?_ | with_reducible refine Ext.on _ ?_ (by first | omega | (simp; done) | (simp; omega))
  case pos =>
    have d1 : decide ((12 : Int) < ((un : Nat) : Int)) = false := decide_eq_false (by omega)
    by_cases h2 : rn ≤ 8
    case neg =>
      have d2 : decide ((8 : Int) < ((rn : Nat) : Int)) = true := decide_eq_true (by omega)
      clear HR HRW
      go_enter Try.func16, Try.ntmps16
      go_wp2_with fail
      go_ret
      refine ⟨false, rfl, (fun h => by cases h), Cls.of ?_⟩
      repeat first | with_reducible exact Below.refl _ _ | with_reducible refine Below.setCell ?_ (by first | omega | (simp; done) | (simp; omega)) _ | with_reducible refine Below.alloc ?_ (by first | omega | (simp; done) | (simp; omega)) _ | with_reducible refine Below.drew ?_ | with_reducible refine Ext.on _ ?_ (by first | omega | (simp; done) | (simp; omega))
    case pos =>
      have d2 : decide ((8 : Int) < ((rn : Nat) : Int)) = false := decide_eq_false (by omega)
      by_cases h3 : bn ≤ 12
      case neg =>
        have d3 : decide ((12 : Int) < ((bn : Nat) : Int)) = true := decide_eq_true (by omega)
        clear HR HRW
        go_enter Try.func16, Try.ntmps16
        go_wp2_with fail
        go_ret
        refine ⟨false, rfl, (fun h => by cases h), Cls.of ?_⟩
        repeat first | with_reducible exact Below.refl _ _ | with_reducible refine Below.setCell ?_ (by first | omega | (simp; done) | (simp; omega)) _ | with_reducible refine Below.alloc ?_ (by first | omega | (simp; done) | (simp; omega)) _ | with_reducible refine Below.drew ?_ | with_reducible refine Ext.on _ ?_ (by first | omega | (simp; done) | (simp; omega))
      case pos =>
        have d3 : decide ((12 : Int) < ((bn : Nat) : Int)) = false := decide_eq_false (by omega)
        have H3 := Lib.hid (And.intro h1 (And.intro h2 h3))
        clear h1 h2 h3
        go_enter Try.func16, Try.ntmps16
        go_wp2_with fail
        go_loopw [3] (fun i wr => ∃ j : Nat, j ≤ rn ∧ i = .int .i64 j ∧ Hid (∀ i, i < j → (row i).len ≤ 12) ∧ Cls (w.alloc (.cells #[.slice ua un uc, .slice ra rn rc, .slice ba bn bc] 30)) wr) (fun i _ => rn - (intOf i).toNat)
        case atStart => exact ⟨0, Nat.zero_le _, rfl, Lib.hid (fun i hi => absurd hi (Nat.not_lt_zero _)), Cls.of (Below.refl _ _)⟩
        case round =>
          obtain ⟨j, hj, rfl, HE, x, rfl⟩ := hrel
          obtain ⟨hx0, c0, c1, c2⟩ := three_s ((x.below.block w.heap.size (by simp)).trans (heap_alloc_new w _))
          have xs := x.size
          simp at xs
          by_cases hltj : j < rn
          · obtain ⟨b, off, ha, hb2, hc⟩ := HR.out.resolve_left (by omega)
            subst ha
            have r0 := hc j hltj
            have q0 := (x.below.cell (p := ⟨b, off + j, none⟩) (by simp; omega)).trans (((Below.refl w.heap.size w).alloc (Nat.le_refl _) _).cell (p := ⟨b, off + j, none⟩) hb2 |>.trans r0)
            have hbx : b < x.val.heap.size := (by omega)
            have tm := (HRW.out j hltj).2.1
            have tm1 := (HRW.out j hltj).1
            unfold maxLen at tm
            clear hc r0
            obtain ⟨tj, htj⟩ : ∃ tj, row j = tj := ⟨_, rfl⟩
            rw [htj] at q0 tm tm1
            obtain ⟨ta, tn, tc⟩ := tj
            simp only at q0 tm tm1
            by_cases h4 : tn ≤ 12
            · have d4 : decide ((12 : Int) < ((tn : Nat) : Int)) = false := decide_eq_false (by omega)
              have HN : Hid (∀ i, i < j + 1 → (row i).len ≤ 12) := Lib.hid fun i hi => by
                rcases Nat.lt_or_ge i j with h | h
                · exact HE.out i h
                · obtain rfl : i = j := by omega
                  rw [htj]; exact h4
              clear htj
              go_wp2_with fail
              go_roundw
              case rel => exact ⟨j + 1, by omega, by go_num, HN, x, rfl⟩
              case measure => simp [intOf]; omega
            · have d4 : decide ((12 : Int) < ((tn : Nat) : Int)) = true := decide_eq_true (by omega)
              clear htj
              go_wp2_with fail
              go_ret
              refine ⟨false, rfl, (fun h => by cases h), Cls.of ?_⟩
              repeat first | with_reducible exact Below.refl _ _ | with_reducible refine Below.setCell ?_ (by first | omega | (simp; done) | (simp; omega)) _ | with_reducible refine Below.alloc ?_ (by first | omega | (simp; done) | (simp; omega)) _ | with_reducible refine Below.drew ?_ | with_reducible refine Ext.on _ ?_ (by first | omega | (simp; done) | (simp; omega))
          · obtain rfl : j = rn := by omega
            go_wp2_with fail
            go_ret
            refine ⟨true, rfl, fun _ => ⟨H3.out.1, H3.out.2.1, H3.out.2.2, HE.out⟩, Cls.of ?_⟩
            repeat first | with_reducible exact Below.refl _ _ | with_reducible refine Below.setCell ?_ (by first | omega | (simp; done) | (simp; omega)) _ | with_reducible refine Below.alloc ?_ (by first | omega | (simp; done) | (simp; omega)) _ | with_reducible refine Below.drew ?_ | with_reducible refine Ext.on _ ?_ (by first | omega | (simp; done) | (simp; omega))
end Go.Proofs.Ythbdkhmgopahbaa
set_option linter.unusedVariables false
namespace Go.Proofs.Ythbdkhmgopahbaa
open Go Go.RowKit Go.Deep
theorem eqIn_frs (n d : Int) (w : World) : (Op.equalIn 10000 34 (.agg #[.int .i64 n, .int .i64 d]) (.agg #[.int .i64 n, .int .i64 d])).run Try.prog w = .ok true w := by
  have hS : Try.prog.underlying 34 = some (.struct (Try.prog.fieldsOf 34)) := by kernel_rfl
  have hp : Try.prog.stoodInHeld 34 = false := by kernel_rfl
  have u2 := Try.underlying2
  have a2 := Try.isAgg2
  have z2 := Try.sizeOf2
  rw [show (10000 : Nat) = 9999 + 1 from rfl, run_equalIn_agg w 9999 _ _ _ hS hp]
  simp only [Program.fieldsOf, Try.underlying34]
  go_simp
set_option maxHeartbeats 4000000 in
set_option maxRecDepth 20000 in
theorem same_calls (a : Option Addr) (n c : Nat) (a' : Option Addr) (c' : Nat) (f g : Nat → Int) (w : World) (h : FrsA w ⟨a, n, c⟩ f g) (h' : FrsA w ⟨a', n, c'⟩ f g) :
    Calls Try.prog 11 #[.slice a n c, .slice a' n c'] w fun e w' => e = .returned (.bool true) ∧ Cls w w' := by
  obtain ⟨hle, hmax, hh⟩ := h
  obtain ⟨hle', hmax', hh'⟩ := h'
  simp only at hle hmax hh hle' hmax' hh'
  unfold maxLen at hmax hmax'
  have H := Lib.hid hh
  have H' := Lib.hid hh'
  clear hh hh'
  go_enter Try.func11, Try.ntmps11
  go_wp2_with fail
  go_loopw [5] (fun i wr => ∃ j : Nat, j ≤ n ∧ i = .int .i64 j ∧ Cls w wr) (fun i _ => n - (intOf i).toNat)
  case atStart => exact ⟨0, Nat.zero_le _, rfl, Cls.of (Below.refl _ _)⟩
  case round =>
    obtain ⟨j, hj, rfl, x, rfl⟩ := hrel
    have xs := x.size
    by_cases hltj : j < n
    · obtain ⟨b, off, ha, hb2, hc⟩ := H.out.resolve_left (by omega)
      obtain ⟨bb, offb, ha', hb2', hc'⟩ := H'.out.resolve_left (by omega)
      subst ha ha'
      obtain ⟨q0, q1⟩ := hc j hltj
      obtain ⟨q2, q3⟩ := hc' j hltj
      have QE : ∀ W, _ := eqIn_frs (f j) (g j)
      clear hc hc' H H'
      generalize f j = u at *
      generalize g j = v at *
      go_wp2_with fail
      refine wp_region_on (by kernel_rfl) (by kernel_rfl) ?_
      repeat (go_big_quiet_step (fail))
      refine wpQuiet_nil ?_
      rintro _ ⟨z, rfl⟩
      go_wp2_with fail
      go_roundw
      case rel => exact ⟨j + 1, by omega, by go_num, z, rfl⟩
      case measure => simp [intOf]; omega
    · go_wp2_with fail
      go_ret
      exact ⟨rfl, x, rfl⟩
end Go.Proofs.Ythbdkhmgopahbaa
set_option linter.unusedVariables false
namespace Go.Proofs.Ythbdkhmgopahbaa
open Go Go.RowKit Go.Deep Go.ChangeShapes Go.WideShapes
section
variable {H : Type} {enc : TypeId × Value → H} {w : World} {base : Nat} {spare : Nat → Bool} {held : Bool}
set_option maxRecDepth 20000 in
theorem open_ints {r : Reach} {b0 : Nat} {v : Value} {d : DataW H} {p : List MemPlace} (hval : Value.okWide Try.prog w r b0 24 v) (h : DataW.Trod enc Try.prog w base spare held 24 v d p) :
    ∃ (s : Sl) (f : Nat → Int), v = .slice s.a s.len s.cap ∧ IntsA w s f ∧ ∀ i, i < s.len → In64 (f i) := by
  obtain ⟨a, len, cap, rfl⟩ := okWide_slice Try.underlying24 hval
  obtain ⟨fuel, hf⟩ := h
  obtain ⟨s, f, e, h1, h2⟩ := ints_of hf
  simp [Value.cells] at e
  obtain ⟨e1, e2, e3⟩ := e
  exact ⟨s, f, by rw [e1, e2, e3], h1, h2⟩
end
/-- One number. -/
def IntAt (w : World) (q : Nat) (u : Int) : Prop := w.heap[q]? = some (.cells #[.int .i64 u] 2)
/-- One row. -/
def RowAt1 (w : World) (q r : Nat) : Prop := w.heap[q]? = some (.cells #[.slice (some ⟨r, 0, none⟩) 1 1] 24)
theorem at_later {w w' : World} {q : Nat} {o : Obj} (h : w.heap[q]? = some o) (hb : Below w.heap.size w w') : w'.heap[q]? = some o := (hb.block q (Array.getElem?_eq_some_iff.1 h).1).trans h
theorem IntAt.later {w w' : World} {q : Nat} {u : Int} (h : IntAt w q u) (hb : Below w.heap.size w w') : IntAt w' q u := at_later h hb
theorem RowAt1.later {w w' : World} {q r : Nat} (h : RowAt1 w q r) (hb : Below w.heap.size w w') : RowAt1 w' q r := at_later h hb
theorem one_len : (1 : Nat) ≤ maxLen := by unfold maxLen; omega
theorem IntAt.ints {w : World} {q : Nat} {u : Int} (h : IntAt w q u) : IntsA w ⟨some ⟨q, 0, none⟩, 1, 1⟩ (fun _ => u) :=
  ⟨Nat.le_refl _, one_len, .inr ⟨q, 0, rfl, (Array.getElem?_eq_some_iff.1 h).1, fun i hi => by
    obtain rfl : i = 0 := by have : i < 1 := hi; omega
    rw [cell_of_row _ _ _ _ _ _ h]; rfl⟩⟩
/-- The system of one variable up to u with c times it equal to b. -/
def litS (q1 q2 r q3 : Nat) (u c b : Int) : Sy := ⟨⟨some ⟨q1, 0, none⟩, 1, 1⟩, ⟨some ⟨q2, 0, none⟩, 1, 1⟩, ⟨some ⟨q3, 0, none⟩, 1, 1⟩, fun _ => u, fun _ => ⟨some ⟨r, 0, none⟩, 1, 1⟩, fun _ _ => c, fun _ => b⟩
theorem lit_sys {w : World} {q1 q2 r q3 : Nat} {u c b : Int} (h1 : IntAt w q1 u) (h2 : RowAt1 w q2 r) (h3 : IntAt w r c) (h4 : IntAt w q3 b) : SysA w (litS q1 q2 r q3 u c b) :=
  ⟨h1.ints, ⟨Nat.le_refl _, one_len, fun i hi => h3.ints, .inr ⟨q2, 0, rfl, (Array.getElem?_eq_some_iff.1 h2).1, fun i hi => by
    obtain rfl : i = 0 := by have : i < 1 := hi; omega
    rw [cell_of_row _ _ _ _ _ _ h2]; rfl⟩⟩, h4.ints⟩
theorem lit_frs {w : World} {q : Nat} {n d : Int} (h : w.heap[q]? = some (.cells #[.int .i64 n, .int .i64 d] 34)) : FrsA w ⟨some ⟨q, 0, none⟩, 1, 1⟩ (fun _ => n) (fun _ => d) :=
  ⟨Nat.le_refl _, one_len, .inr ⟨q, 0, rfl, (Array.getElem?_eq_some_iff.1 h).1, fun i hi => by
    obtain rfl : i = 0 := by have : i < 1 := hi; omega
    exact ⟨by rw [cell_of_row _ _ _ _ _ _ h]; rfl, by rw [cell_of_row _ _ _ _ _ _ h]; rfl⟩⟩⟩
/-- What a combination gives, in short. -/
theorem CmbR.frs {y : Sy} {n : Nat} {mn md : Nat → Int} {w w' : World} {e : Ending} (h : CmbR y n mn md w e w') : ∃ s : Sl, e = .returned (.tuple #[.slice s.a s.len s.cap, .agg #[.int .i64 (cmN y n mn md), .int .i64 (cmD y n mn md)], .int .i64 (cmE y n mn md)]) ∧ s.len = (if cmE y n mn md = 0 then y.U.len else 0) ∧ FrsA w' s (cbN y n mn md) (cbD y n mn md) ∧ Cls w w' := by
  obtain ⟨s, he, h0, h1, hc⟩ := h
  refine ⟨s, he, ?_⟩
  by_cases hz : cmE y n mn md = 0
  · rw [if_pos hz]; exact ⟨(h0 hz).1, (h0 hz).2, hc⟩
  · rw [if_neg hz]
    have := h1 hz
    subst this
    exact ⟨rfl, ⟨Nat.le_refl _, Nat.zero_le _, .inl rfl⟩, hc⟩
end Go.Proofs.Ythbdkhmgopahbaa
set_option linter.unusedVariables false
namespace Go.Proofs.Ythbdkhmgopahbaa
open Go Go.RowKit Go.Deep

/-- A later world: all that was there is as it was, but for block T. -/
structure Tp (T : Nat) (w w' : World) : Prop where
  os : w'.os = w.os
  tape : w'.tape = w.tape
  output : w'.output = w.output
  size : w.heap.size ≤ w'.heap.size
  block : ∀ k, k < w.heap.size → k ≠ T → w'.heap[k]? = w.heap[k]?
namespace Tp
theorem refl (T : Nat) (w : World) : Tp T w w := ⟨rfl, rfl, rfl, Nat.le_refl _, fun _ _ _ => rfl⟩
theorem trans {T : Nat} {a b c : World} (h : Tp T a b) (k : Tp T b c) : Tp T a c :=
  ⟨k.os.trans h.os, k.tape.trans h.tape, k.output.trans h.output, Nat.le_trans h.size k.size, fun i hi hT => (k.block i (Nat.lt_of_lt_of_le hi h.size) hT).trans (h.block i hi hT)⟩
theorem ofBelow {T : Nat} {w w' : World} (h : Below w.heap.size w w') : Tp T w w' := ⟨h.os, h.tape, h.output, h.size, fun k hk _ => h.block k hk⟩
theorem ext {T : Nat} {w0 w : World} (h : Tp T w0 w) (x : Ext w) : Tp T w0 x.val := h.trans (ofBelow x.below)
theorem drew {T : Nat} {w0 w : World} (h : Tp T w0 w) : Tp T w0 w.drew := h.trans (ofBelow (Below.refl _ _).drew)
theorem alloc {T : Nat} {w0 w : World} (h : Tp T w0 w) (o : Obj) : Tp T w0 (w.alloc o) := h.trans (ofBelow ((Below.refl _ _).alloc (Nat.le_refl _) o))
theorem setCell {T : Nat} {w0 w : World} (h : Tp T w0 w) {p : Addr} (hp : w0.heap.size ≤ p.block ∨ p.block = T) (u : Value) : Tp T w0 (w.setCell p u) :=
  ⟨h.os, h.tape, h.output, by simpa [World.setCell] using h.size, fun k hk hT => (Below.heap_setCell _ _ _ _ (by rcases hp with hp | hp <;> omega)).trans (h.block k hk hT)⟩
theorem toBelow {T B : Nat} {w w' : World} (h : Tp T w w') (hB : B ≤ w.heap.size) (hT : B ≤ T) : Below B w w' := ⟨h.os, h.tape, h.output, h.size, fun k hk => h.block k (by omega) (by omega)⟩
theorem cell {T : Nat} {w w' : World} (h : Tp T w w') {b : Nat} (o : Nat) (hb : b < w.heap.size) (hT : b ≠ T) : w'.cell? ⟨b, o, none⟩ = w.cell? ⟨b, o, none⟩ := World.cell?_of_block (w := w) (h.block b hb hT)
theorem frozen {T : Nat} {w w' : World} (h : Tp T w w') {b : Nat} (o : Nat) (hb : b < w.heap.size) (hT : b ≠ T) : w'.frozen? ⟨b, o, none⟩ = w.frozen? ⟨b, o, none⟩ := World.frozen?_of_block (w := w) (h.block b hb hT)
end Tp

/-- Block T holds a tape that has been read at most m times; its numbers lie elsewhere. -/
def TapeAt (T m : Nat) (w : World) : Prop := ∃ (a : Option Addr) (len cap p : Nat), w.heap[T]? = some (.cells #[.slice a len cap, .int .i64 (p : Nat)] 27) ∧ p ≤ m ∧ len ≤ maxLen ∧
  (len = 0 ∨ ∃ b off, a = some ⟨b, off, none⟩ ∧ b < T ∧ ∀ i, i < len → ∃ n : Int, (Lit.int .i64 n).wf = true ∧ w.cell? ⟨b, off + i, none⟩ = some (.int .i64 n))
namespace TapeAt
theorem lt {T m : Nat} {w : World} (h : TapeAt T m w) : T < w.heap.size := by
  obtain ⟨a, len, cap, p, h1, _⟩ := h
  exact (Array.getElem?_eq_some_iff.1 h1).1
theorem mono {T m m' : Nat} {w : World} (h : TapeAt T m w) (hm : m ≤ m') : TapeAt T m' w := by
  obtain ⟨a, len, cap, p, h1, h2, h3⟩ := h
  exact ⟨a, len, cap, p, h1, by omega, h3⟩
/-- What lies up to the tape is as it was. -/
theorem upto {T m : Nat} {w w' : World} (h : TapeAt T m w) (hb : Below (T + 1) w w') : TapeAt T m w' := by
  obtain ⟨a, len, cap, p, h1, h2, h3, h4⟩ := h
  refine ⟨a, len, cap, p, (hb.block T (by omega)).trans h1, h2, h3, h4.imp id ?_⟩
  rintro ⟨b, off, ha, hlt, hc⟩
  refine ⟨b, off, ha, hlt, fun i hi => ?_⟩
  obtain ⟨n, hn, hq⟩ := hc i hi
  exact ⟨n, hn, by rw [hb.cell (p := ⟨b, _, none⟩) (show b < T + 1 by omega)]; exact hq⟩
theorem later {T m : Nat} {w w' : World} (h : TapeAt T m w) (hb : Below w.heap.size w w') : TapeAt T m w' := h.upto (hb.mono h.lt)
end TapeAt
theorem Tp.grown {T : Nat} {a w w' : World} {row : Option Nat} (h : Tp T a w) (hg : w.grownBy w' row) (hr : ∀ k, row = some k → a.heap.size ≤ k) : Tp T a w' :=
  ⟨hg.os.trans h.os, hg.tape.trans h.tape, hg.output.trans h.output, Nat.le_trans h.size hg.size, fun k hk hT => (hg.block k (Nat.lt_of_lt_of_le hk h.size) (fun e => by have := hr k e.symm; omega)).trans (h.block k hk hT)⟩
/-- A later world of w, but for the tape at T, which has been read at most m times. -/
structure Lat (T m : Nat) (w : World) where
  val : World
  tp : Tp T w val
  at_ : TapeAt T m val
namespace Lat
variable {T m : Nat} {w : World}
@[go_sem] theorem cell (x : Lat T m w) {b : Nat} (o : Nat) (h : b < w.heap.size) (hT : b ≠ T) : x.val.cell? ⟨b, o, none⟩ = w.cell? ⟨b, o, none⟩ := x.tp.cell o h hT
@[go_sem] theorem frozen (x : Lat T m w) {b : Nat} (o : Nat) (h : b < w.heap.size) (hT : b ≠ T) : x.val.frozen? ⟨b, o, none⟩ = w.frozen? ⟨b, o, none⟩ := x.tp.frozen o h hT
theorem size (x : Lat T m w) : w.heap.size ≤ x.val.heap.size := x.tp.size
theorem lts (x : Lat T m w) {b : Nat} (h : b < w.heap.size) : b < x.val.heap.size ∧ b < x.val.heap.size + 1 ∧ b < x.val.heap.size + 1 + 1 ∧ b < x.val.heap.size + 1 + 1 + 1 ∧ b < x.val.heap.size + 1 + 1 + 1 + 1 := by
  have := x.size
  refine ⟨?_, ?_, ?_, ?_, ?_⟩ <;> omega
theorem on {w0 : World} (x : Lat T m w) (h : Tp T w0 w) : Tp T w0 x.val := h.trans x.tp
end Lat
theorem own_tp {T : Nat} {w w' : World} {base size n : Nat} {e : TypeId} {v : Value} {xs : List Value} (h : w.ownsRow base e size v n xs) (hb : Tp T w w') (hT : T < base) : w'.ownsRow base e size v n xs := by
  refine ⟨h.1, h.2.imp id ?_⟩
  rintro ⟨g, cap, cur, hv, hg, hh, rest⟩
  exact ⟨g, cap, cur, hv, hg, (hb.block g (Array.getElem?_eq_some_iff.1 hh).1 (by omega)).trans hh, rest⟩
/-- What a call does that reads the tape. -/
def Tq (T m : Nat) (w w' : World) : Prop := ∃ x : Lat T m w, w' = x.val
theorem Tq.of {T m : Nat} {w w' : World} (h : Tp T w w') (h' : TapeAt T m w') : Tq T m w w' := ⟨⟨w', h, h'⟩, rfl⟩

theorem tape_step {T p len cap m : Nat} {w : World} {a : Option Addr} (h1 : w.heap[T]? = some (.cells #[.slice a len cap, .int .i64 (p : Nat)] 27)) (hm : p ≤ m) (h3 : len ≤ maxLen)
    (h4 : len = 0 ∨ ∃ b off, a = some ⟨b, off, none⟩ ∧ b < T ∧ ∀ i, i < len → ∃ n : Int, (Lit.int .i64 n).wf = true ∧ w.cell? ⟨b, off + i, none⟩ = some (.int .i64 n)) (x : Ext w) :
    Tq T (m + 1) w (x.val.setCell ⟨T, 1, none⟩ (.int .i64 ((p : Int) + 1))) := by
  have hT : T < w.heap.size := (Array.getElem?_eq_some_iff.1 h1).1
  refine Tq.of (Tp.setCell (p := ⟨T, 1, none⟩) ((Tp.refl _ _).ext x) (.inr rfl) _) ⟨a, len, cap, p + 1, ?_, by omega, h3, h4.imp id ?_⟩
  · have hx : x.val.heap[T]? = some (.cells #[.slice a len cap, .int .i64 (p : Nat)] 27) := (x.below.block T hT).trans h1
    simp only [World.setCell, Array.getElem?_modify, hx]
    simp
  · rintro ⟨b, off, ha, hlt, hc⟩
    refine ⟨b, off, ha, hlt, fun i hi => ?_⟩
    obtain ⟨n, hn, hq⟩ := hc i hi
    refine ⟨n, hn, Eq.trans ?_ hq⟩
    refine World.cell?_of_block (w := w) ?_
    exact (Below.heap_setCell _ _ _ _ (show b ≠ T by omega)).trans (x.below.block b (by omega))
theorem tmod_bounds (k n : Int) (h : 0 < n) : -n < k.tmod n ∧ k.tmod n < n := by
  constructor
  · have := Int.lt_tmod_of_pos k h; omega
  · exact Int.tmod_lt_of_pos k h
set_option maxHeartbeats 4000000 in
set_option maxRecDepth 20000 in
theorem Next_calls (T m : Nat) (n : Int) (w : World) (h : TapeAt T m w) (hm : m < 2 ^ 62) (hn : n ≤ 2 ^ 62) (hn0 : -2 ^ 62 ≤ n) :
    Calls Try.prog 8 #[.pointer (some ⟨T, 0, none⟩), .int .i64 n] w fun e w' => ∃ r : Nat, e = .returned (.int .i64 (r : Nat)) ∧ (r = 0 ∨ (r : Int) < n) ∧ Tq T (m + 1) w w' := by
  by_cases h1 : n < 1
  · have d1 : decide (n < 1) = true := by simpa using h1
    have H := Lib.hid h
    clear h h1
    go_enter Try.func8, Try.ntmps8
    go_wp2_with fail
    go_ret
    exact ⟨0, rfl, .inl rfl, Tq.of (Tp.refl _ _) (H.out.mono (by omega))⟩
  · have d1 : decide (n < 1) = false := by simpa using h1
    have hT := h.lt
    obtain ⟨a, len, cap, p, e1, e2, e3, e4⟩ := h
    have c0 : w.cell? ⟨T, 0, none⟩ = some (.slice a len cap) := by rw [cell_of_row _ _ _ _ _ (0, 0) e1]; rfl
    have c1 : w.cell? ⟨T, 1, none⟩ = some (.int .i64 (p : Nat)) := by rw [cell_of_row _ _ _ _ _ (0, 0) e1]; rfl
    have f1 : w.frozen? ⟨T, 1, none⟩ = false := by simp [World.frozen?, e1]
    unfold maxLen at e3
    have E1 := Lib.hid e1
    have E4 := Lib.hid e4
    clear e1 e4
    by_cases h2 : p < len
    · obtain ⟨b, off, rfl, hb1, hc⟩ := E4.out.resolve_left (by omega)
      have hb2 : b < w.heap.size := by omega
      obtain ⟨k, hk, q⟩ := hc p h2
      clear hc
      have d2 : decide ((p : Int) < (len : Int)) = true := by simp; omega
      obtain ⟨t1, t2⟩ := tmod_bounds k n (by omega)
      have t3 : k.tmod n + n < 2 ^ 63 := by omega
      go_enter Try.func8, Try.ntmps8
      go_wp2_with fail
      refine wp_region_ext (by kernel_rfl) (by kernel_rfl) ?_
      repeat (go_big_quiet_step (fail))
      refine wpQuiet_nil ?_
      rintro _ ⟨x, rfl⟩
      go_wp2_with fail
      refine wp_region_on (by kernel_rfl) (by kernel_rfl) ?_
      repeat (go_big_quiet_step (fail))
      refine wpQuiet_nil ?_
      rintro _ ⟨y, rfl⟩
      go_wp2_with fail
      all_goals
        go_ret
      · exact ⟨(k.tmod n + n).toNat, ret_int (by omega), by right; omega, tape_step E1.out e2 e3 E4.out y⟩
      · exact ⟨(k.tmod n).toNat, ret_int (by omega), by right; omega, tape_step E1.out e2 e3 E4.out y⟩
    · have d2 : decide ((p : Int) < (len : Int)) = false := by simp; omega
      go_enter Try.func8, Try.ntmps8
      go_wp2_with fail
      refine wp_region_ext (by kernel_rfl) (by kernel_rfl) ?_
      repeat (go_big_quiet_step (fail))
      refine wpQuiet_nil ?_
      rintro _ ⟨x, rfl⟩
      go_wp2_with fail
      go_ret
      exact ⟨0, rfl, .inl rfl, tape_step E1.out e2 e3 E4.out x⟩
end Go.Proofs.Ythbdkhmgopahbaa
