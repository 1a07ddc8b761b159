/-
  Systems and lists of fractions that came in: what they hold. And the law's Few. The law's same: two lists of the same fractions. A quotient of two digits by one, digit by digit of 32 bits: what the loops of Div64 find. Plain natural numbers.
-/
import Derived.Test.YtilhhbjdcdediaaJ09
import Derived.Deep.Slices
import Derived.Deep.Strs
import Derived.Deep.Fields
import Derived.ProofKit
import Derived.ChangeSame
import Derived.Lib.SmallJoins
import Derived.Laws.StructEq
set_option linter.unusedVariables false
namespace Go.Proofs.Ytilhhbjdcdediaa
open Go Go.RowKit Go.ChangeShapes Go.WideShapes Go.Deep Go.Joins
instance : Inhabited Sl := ⟨⟨none, 0, 0⟩⟩
theorem In64.ofw {n : Int} (h : (Lit.int .i64 n).wf = true) : In64 n := by
  simp [Lit.wf, IntKind.min, IntKind.max, IntKind.bits, IntKind.signed] at h
  unfold In64; omega
theorem cell_lt {w : World} {p : Addr} {v : Value} (h : w.cell? p = some v) : p.block < w.heap.size := by
  rcases Nat.lt_or_ge p.block w.heap.size with h' | h'
  · exact h'
  · simp [World.cell?, Array.getElem?_eq_none h'] at h
theorem spot_none {w : World} {b off : Nat} {spot} {v : Value} (h : w.cell? ((⟨b, off, spot⟩ : Addr).add 0) = some v) : spot = none := by simpa [Addr.add] using World.cell?_spot h
theorem addN (b off j : Nat) : (⟨b, off, none⟩ : Addr).add j = ⟨b, off + j, none⟩ := by unfold Addr.add; split <;> simp_all
section
variable {H : Type} {enc : TypeId × Value → H} {w : World} {base : Nat} {spare : Nat → Bool} {held : Bool}
theorem ints_of {fuel : Nat} {cs : List Value} {x : DataW H × List MemPlace} (h : DataW.trod enc Try.prog w base spare held fuel 24 cs = some x) :
    ∃ (s : Sl) (f : Nat → Int), cs = [.slice s.a s.len s.cap] ∧ IntsA w s f ∧ ∀ i, i < s.len → In64 (f i) := by
  rcases Go.Deep.open_slice1 Try.underlying24 (by kernel_rfl) h with ⟨hcs, _⟩ | ⟨a, len, cap, m, n, V, D, Pl, hcs, hb, hl, hm, hmm, _, hi⟩
  · exact ⟨⟨none, 0, 0⟩, fun _ => 0, hcs, ⟨Nat.le_refl _, Nat.zero_le _, .inl rfl⟩, fun i hi => absurd hi (Nat.not_lt_zero _)⟩
  · have hel : ∀ i, i < len → ∃ k : Int, w.cell? (a.add i) = some (.int .i64 k) ∧ In64 k := fun i hil => by
      obtain ⟨h1, h2⟩ := hi i (by rw [hmm]; split <;> omega)
      obtain ⟨k, e, _, hw⟩ := DataW.trod_int Try.underlying2 h2
      simp at e
      exact ⟨k, by rw [h1, e], In64.ofw hw⟩
    obtain ⟨f, hf⟩ := choose_lt hel
    refine ⟨⟨some a, len, cap⟩, f, hcs, ⟨hl, hm, ?_⟩, fun i hi => (hf i hi).2⟩
    by_cases h0 : len = 0
    · exact .inl h0
    · obtain ⟨b, off, spot⟩ := a
      have hz := (hf 0 (by omega)).1
      obtain rfl := spot_none hz
      rw [addN] at hz
      exact .inr ⟨b, off, rfl, cell_lt hz, fun i hi => by have := (hf i hi).1; rwa [addN] at this⟩
theorem rows_of {fuel : Nat} {cs : List Value} {x : DataW H × List MemPlace} (h : DataW.trod enc Try.prog w base spare held fuel 28 cs = some x) :
    ∃ (s : Sl) (r : Nat → Sl) (f : Nat → Nat → Int), cs = [.slice s.a s.len s.cap] ∧ RowsA w s r f := by
  rcases Go.Deep.open_slice1 Try.underlying28 (by kernel_rfl) h with ⟨hcs, _⟩ | ⟨a, len, cap, m, n, V, D, Pl, hcs, hb, hl, hm, hmm, _, hi⟩
  · exact ⟨⟨none, 0, 0⟩, fun _ => ⟨none, 0, 0⟩, fun _ _ => 0, hcs, Nat.le_refl _, Nat.zero_le _, fun i hi => absurd hi (Nat.not_lt_zero _), .inl rfl⟩
  · have hel : ∀ i, i < len → ∃ k : Sl × (Nat → Int), w.cell? (a.add i) = some (.slice k.1.a k.1.len k.1.cap) ∧ IntsA w k.1 k.2 := fun i hil => by
      obtain ⟨h1, h2⟩ := hi i (by rw [hmm]; split <;> omega)
      obtain ⟨s, f, e, hs, _⟩ := ints_of h2
      simp at e
      exact ⟨⟨s, f⟩, by rw [h1, e], hs⟩
    obtain ⟨f, hf⟩ := choose_lt hel
    refine ⟨⟨some a, len, cap⟩, fun i => (f i).1, fun i => (f i).2, hcs, hl, hm, fun i hi => (hf i hi).2, ?_⟩
    by_cases h0 : len = 0
    · exact .inl h0
    · obtain ⟨b, off, spot⟩ := a
      have hz := (hf 0 (by omega)).1
      obtain rfl := spot_none hz
      rw [addN] at hz
      exact .inr ⟨b, off, rfl, cell_lt hz, fun i hi => by have := (hf i hi).1; rwa [addN] at this⟩
theorem cellsSys : Try.prog.cellsOf 30 = 3 := by kernel_rfl
theorem cellsFrac : Try.prog.cellsOf 34 = 2 := by kernel_rfl
theorem cellsI64 : Try.prog.cellsOf 2 = 1 := by kernel_rfl
set_option maxRecDepth 20000 in
theorem open_sys {r : Reach} {b0 : Nat} {v : Value} {d : DataW H} {p : List MemPlace} (hval : Value.okWide Try.prog w r b0 30 v) (h : DataW.Trod enc Try.prog w base spare held 30 v d p) :
    ∃ y : Sy, v = y.v ∧ SysA w y := by
  obtain ⟨x, y, z, e, f, g, m, rfl, _, _, t, u, s⟩ := open_agg3 Try.underlying30 (by kernel_rfl) cellsSys hval h
  obtain ⟨s1, f1, e1, k1, _⟩ := ints_of t
  obtain ⟨s2, r2, f2, e2, k2⟩ := rows_of u
  obtain ⟨s3, f3, e3, k3, _⟩ := ints_of s
  simp at e1 e2 e3
  subst e1 e2 e3
  exact ⟨⟨s1, s2, s3, f1, r2, f2, f3⟩, rfl, ⟨k1, k2, k3⟩⟩
theorem list2 {α : Type} {l : List α} (h : l.length = 2) : ∃ a b, l = [a, b] := by
  match l, h with
  | [a, b], _ => exact ⟨a, b, rfl⟩
set_option maxRecDepth 20000 in
theorem open_frs {r : Reach} {b0 : Nat} {v : Value} {d : DataW H} {p : List MemPlace} (hval : Value.okWide Try.prog w r b0 23 v) (h : DataW.Trod enc Try.prog w base spare held 23 v d p) :
    ∃ (s : Sl) (f g : Nat → Int), v = .slice s.a s.len s.cap ∧ FrsA w s f g ∧ ∀ i, i < s.len → In64 (f i) ∧ In64 (g i) := by
  obtain ⟨a, len, cap, rfl⟩ := okWide_slice Try.underlying23 hval
  obtain ⟨fuel, hf⟩ := h
  rcases Go.Deep.open_slice Try.underlying23 hf with ⟨hcs, _⟩ | ⟨x, l', c', m, n, D, Pl, hcs, hb, hl, hm, hmm, _, hi⟩
  · simp [Value.cells] at hcs
    obtain ⟨rfl, rfl, rfl⟩ := hcs
    exact ⟨⟨none, 0, 0⟩, fun _ => 0, fun _ => 0, rfl, ⟨Nat.le_refl _, Nat.zero_le _, .inl rfl⟩, fun i hi => absurd hi (Nat.not_lt_zero _)⟩
  · simp [Value.cells] at hcs
    obtain ⟨rfl, rfl, rfl⟩ := hcs
    have hel : ∀ i, i < len → ∃ u : Int × Int, w.cell? (x.add (i * 2)) = some (.int .i64 u.1) ∧ w.cell? (x.add (i * 2 + 1)) = some (.int .i64 u.2) ∧ In64 u.1 ∧ In64 u.2 := fun i hil => by
      obtain ⟨cs', hc, ht⟩ := hi i (by rw [hmm]; split <;> omega)
      rw [cellsFrac] at hc
      obtain ⟨_, hcl, hat⟩ := World.cells?_some hc
      obtain ⟨c0, c1, rfl⟩ := list2 hcl
      obtain ⟨y0, y1, n', _, _, t0, t1⟩ := trod_struct2 Try.underlying34 ht
      rw [cellsI64] at t0 t1
      obtain ⟨k, e0, _, w0⟩ := DataW.trod_int Try.underlying2 t0
      obtain ⟨nn, e1, _, w1⟩ := DataW.trod_int Try.underlying2 t1
      simp at e0 e1
      subst e0 e1
      have a0 := hat 0 (by omega)
      have a1 := hat 1 (by omega)
      rw [Go.Deep.add_add] at a0 a1
      exact ⟨⟨k, nn⟩, a0, a1, In64.ofw w0, In64.ofw w1⟩
    obtain ⟨u, hu⟩ := choose_lt hel
    refine ⟨⟨some x, len, cap⟩, fun i => (u i).1, fun i => (u i).2, rfl, ⟨hl, hm, ?_⟩, fun i hi => (hu i hi).2.2⟩
    by_cases h0 : len = 0
    · exact .inl h0
    · obtain ⟨b, off, spot⟩ := x
      have hz := (hu 0 (by omega)).1
      obtain rfl := spot_none hz
      rw [addN] at hz
      exact .inr ⟨b, off, rfl, cell_lt hz, fun i hi => by obtain ⟨q1, q2, _⟩ := hu i hi; rw [addN] at q1 q2; exact ⟨q1, by rw [Nat.add_assoc]; exact q2⟩⟩
end
/-- What the law's Few says of a system that it lets through. -/
def FewOk (y : Sy) : Prop := y.U.len ≤ 12 ∧ y.R.len ≤ 8 ∧ y.B.len ≤ 12 ∧ ∀ i, i < y.R.len → (y.row i).len ≤ 12
set_option maxHeartbeats 16000000 in
set_option maxRecDepth 20000 in
theorem Few_calls (y : Sy) (w : World) (h : SysA w y) :
    Calls Try.prog 16 #[y.v] w fun e w' => ∃ b, e = .returned (.bool b) ∧ (b = true → FewOk y) ∧ Cls w w' := by
  obtain ⟨_, um, _⟩ := h.U
  obtain ⟨_, rm, hrow, hr⟩ := h.R
  obtain ⟨_, bm, _⟩ := h.B
  unfold maxLen at um rm bm
  unfold Sy.v FewOk
  have HR := Lib.hid hr
  have HRW := Lib.hid hrow
  clear hr hrow h
  obtain ⟨⟨ua, un, uc⟩, ⟨ra, rn, rc⟩, ⟨ba, bn, bc⟩, up, row, co, rt⟩ := y
  simp only at *
  by_cases h1 : un ≤ 12
  case neg =>
    have d1 : decide ((12 : Int) < ((un : Nat) : Int)) = true := decide_eq_true (by omega)
    clear HR HRW
    go_enter Try.func16, Try.ntmps16
    go_wp2_with fail
    go_ret
    refine ⟨false, rfl, (fun h => by cases h), Cls.of ?_⟩
    repeat first | with_reducible exact Below.refl _ _ | with_reducible refine Below.setCell ?_ (by first | omega | (simp; done) | (simp; omega)) _ | with_reducible refine Below.alloc ?_ (by first | omega | (simp; done) | (simp; omega)) _ | with_reducible refine Below.drew ?_ | with_reducible refine Ext.on _ ?_ (by first | omega | (simp; done) | (simp; omega))
  case pos =>
    have d1 : decide ((12 : Int) < ((un : Nat) : Int)) = false := decide_eq_false (by omega)
    by_cases h2 : rn ≤ 8
    case neg =>
      have d2 : decide ((8 : Int) < ((rn : Nat) : Int)) = true := decide_eq_true (by omega)
      clear HR HRW
      go_enter Try.func16, Try.ntmps16
      go_wp2_with fail
      go_ret
      refine ⟨false, rfl, (fun h => by cases h), Cls.of ?_⟩
      repeat first | with_reducible exact Below.refl _ _ | with_reducible refine Below.setCell ?_ (by first | omega | (simp; done) | (simp; omega)) _ | with_reducible refine Below.alloc ?_ (by first | omega | (simp; done) | (simp; omega)) _ | with_reducible refine Below.drew ?_ | with_reducible refine Ext.on _ ?_ (by first | omega | (simp; done) | (simp; omega))
    case pos =>
      have d2 : decide ((8 : Int) < ((rn : Nat) : Int)) = false := decide_eq_false (by omega)
      by_cases h3 : bn ≤ 12
      case neg =>
        have d3 : decide ((12 : Int) < ((bn : Nat) : Int)) = true := decide_eq_true (by omega)
        clear HR HRW
        go_enter Try.func16, Try.ntmps16
        go_wp2_with fail
        go_ret
        refine ⟨false, rfl, (fun h => by cases h), Cls.of ?_⟩
        repeat first | with_reducible exact Below.refl _ _ | with_reducible refine Below.setCell ?_ (by first | omega | (simp; done) | (simp; omega)) _ | with_reducible refine Below.alloc ?_ (by first | omega | (simp; done) | (simp; omega)) _ | with_reducible refine Below.drew ?_ | with_reducible refine Ext.on _ ?_ (by first | omega | (simp; done) | (simp; omega))
      case pos =>
        have d3 : decide ((12 : Int) < ((bn : Nat) : Int)) = false := decide_eq_false (by omega)
        have H3 := Lib.hid (And.intro h1 (And.intro h2 h3))
        clear h1 h2 h3
        go_enter Try.func16, Try.ntmps16
        go_wp2_with fail
        go_loopw [3] (fun i wr => ∃ j : Nat, j ≤ rn ∧ i = .int .i64 j ∧ Hid (∀ i, i < j → (row i).len ≤ 12) ∧ Cls (w.alloc (.cells #[.slice ua un uc, .slice ra rn rc, .slice ba bn bc] 30)) wr) (fun i _ => rn - (intOf i).toNat)
        case atStart => exact ⟨0, Nat.zero_le _, rfl, Lib.hid (fun i hi => absurd hi (Nat.not_lt_zero _)), Cls.of (Below.refl _ _)⟩
        case round =>
          obtain ⟨j, hj, rfl, HE, x, rfl⟩ := hrel
          obtain ⟨hx0, c0, c1, c2⟩ := three_s ((x.below.block w.heap.size (by simp)).trans (heap_alloc_new w _))
          have xs := x.size
          simp at xs
          by_cases hltj : j < rn
          · obtain ⟨b, off, ha, hb2, hc⟩ := HR.out.resolve_left (by omega)
            subst ha
            have r0 := hc j hltj
            have q0 := (x.below.cell (p := ⟨b, off + j, none⟩) (by simp; omega)).trans (((Below.refl w.heap.size w).alloc (Nat.le_refl _) _).cell (p := ⟨b, off + j, none⟩) hb2 |>.trans r0)
            have hbx : b < x.val.heap.size := (by omega)
            have tm := (HRW.out j hltj).2.1
            have tm1 := (HRW.out j hltj).1
            unfold maxLen at tm
            clear hc r0
            obtain ⟨tj, htj⟩ : ∃ tj, row j = tj := ⟨_, rfl⟩
            rw [htj] at q0 tm tm1
            obtain ⟨ta, tn, tc⟩ := tj
            simp only at q0 tm tm1
            by_cases h4 : tn ≤ 12
            · have d4 : decide ((12 : Int) < ((tn : Nat) : Int)) = false := decide_eq_false (by omega)
              have HN : Hid (∀ i, i < j + 1 → (row i).len ≤ 12) := Lib.hid fun i hi => by
                rcases Nat.lt_or_ge i j with h | h
                · exact HE.out i h
                · obtain rfl : i = j := by omega
                  rw [htj]; exact h4
              clear htj
              go_wp2_with fail
              go_roundw
              case rel => exact ⟨j + 1, by omega, by go_num, HN, x, rfl⟩
              case measure => simp [intOf]; omega
            · have d4 : decide ((12 : Int) < ((tn : Nat) : Int)) = true := decide_eq_true (by omega)
              clear htj
              go_wp2_with fail
              go_ret
              refine ⟨false, rfl, (fun h => by cases h), Cls.of ?_⟩
              repeat first | with_reducible exact Below.refl _ _ | with_reducible refine Below.setCell ?_ (by first | omega | (simp; done) | (simp; omega)) _ | with_reducible refine Below.alloc ?_ (by first | omega | (simp; done) | (simp; omega)) _ | with_reducible refine Below.drew ?_ | with_reducible refine Ext.on _ ?_ (by first | omega | (simp; done) | (simp; omega))
          · obtain rfl : j = rn := by omega
            go_wp2_with fail
            go_ret
            refine ⟨true, rfl, fun _ => ⟨H3.out.1, H3.out.2.1, H3.out.2.2, HE.out⟩, Cls.of ?_⟩
            repeat first | with_reducible exact Below.refl _ _ | with_reducible refine Below.setCell ?_ (by first | omega | (simp; done) | (simp; omega)) _ | with_reducible refine Below.alloc ?_ (by first | omega | (simp; done) | (simp; omega)) _ | with_reducible refine Below.drew ?_ | with_reducible refine Ext.on _ ?_ (by first | omega | (simp; done) | (simp; omega))
end Go.Proofs.Ytilhhbjdcdediaa
set_option linter.unusedVariables false
namespace Go.Proofs.Ytilhhbjdcdediaa
open Go Go.RowKit Go.Deep
theorem eqIn_frs (n d : Int) (w : World) : (Op.equalIn 10000 34 (.agg #[.int .i64 n, .int .i64 d]) (.agg #[.int .i64 n, .int .i64 d])).run Try.prog w = .ok true w := by
  have hS : Try.prog.underlying 34 = some (.struct (Try.prog.fieldsOf 34)) := by kernel_rfl
  have hp : Try.prog.stoodInHeld 34 = false := by kernel_rfl
  have u2 := Try.underlying2
  have a2 := Try.isAgg2
  have z2 := Try.sizeOf2
  rw [show (10000 : Nat) = 9999 + 1 from rfl, run_equalIn_agg w 9999 _ _ _ hS hp]
  simp only [Program.fieldsOf, Try.underlying34]
  go_simp
set_option maxHeartbeats 4000000 in
set_option maxRecDepth 20000 in
theorem same_calls (a : Option Addr) (n c : Nat) (a' : Option Addr) (c' : Nat) (f g : Nat → Int) (w : World) (h : FrsA w ⟨a, n, c⟩ f g) (h' : FrsA w ⟨a', n, c'⟩ f g) :
    Calls Try.prog 11 #[.slice a n c, .slice a' n c'] w fun e w' => e = .returned (.bool true) ∧ Cls w w' := by
  obtain ⟨hle, hmax, hh⟩ := h
  obtain ⟨hle', hmax', hh'⟩ := h'
  simp only at hle hmax hh hle' hmax' hh'
  unfold maxLen at hmax hmax'
  have H := Lib.hid hh
  have H' := Lib.hid hh'
  clear hh hh'
  go_enter Try.func11, Try.ntmps11
  go_wp2_with fail
  go_loopw [5] (fun i wr => ∃ j : Nat, j ≤ n ∧ i = .int .i64 j ∧ Cls w wr) (fun i _ => n - (intOf i).toNat)
  case atStart => exact ⟨0, Nat.zero_le _, rfl, Cls.of (Below.refl _ _)⟩
  case round =>
    obtain ⟨j, hj, rfl, x, rfl⟩ := hrel
    have xs := x.size
    by_cases hltj : j < n
    · obtain ⟨b, off, ha, hb2, hc⟩ := H.out.resolve_left (by omega)
      obtain ⟨bb, offb, ha', hb2', hc'⟩ := H'.out.resolve_left (by omega)
      subst ha ha'
      obtain ⟨q0, q1⟩ := hc j hltj
      obtain ⟨q2, q3⟩ := hc' j hltj
      have QE : ∀ W, _ := eqIn_frs (f j) (g j)
      clear hc hc' H H'
      generalize f j = u at *
      generalize g j = v at *
      go_wp2_with fail
      refine wp_region_on (by kernel_rfl) (by kernel_rfl) ?_
      repeat (go_big_quiet_step (fail))
      refine wpQuiet_nil ?_
      rintro _ ⟨z, rfl⟩
      go_wp2_with fail
      go_roundw
      case rel => exact ⟨j + 1, by omega, by go_num, z, rfl⟩
      case measure => simp [intOf]; omega
    · go_wp2_with fail
      go_ret
      exact ⟨rfl, x, rfl⟩
end Go.Proofs.Ytilhhbjdcdediaa
namespace Go.Proofs.Ytilhhbjdcdediaa
/-- One digit of the quotient: u * 2^32 + d by y, where y = h * 2^32 + l is at least 2^63; q: the guess, r: its rest. -/
structure KnI (u d h l q r : Nat) : Prop where
  eq : q * h + r = u
  ge : (u * 4294967296 + d) / (h * 4294967296 + l) ≤ q
  le : q ≤ 4294967297
theorem KnI.start {u d h l : Nat} (hh : 2147483648 ≤ h) (hh2 : h < 4294967296) (hd : d < 4294967296) (hu : u < h * 4294967296 + l) (hl : l < 4294967296) : KnI u d h l (u / h) (u % h) := by
  have h0 : 0 < h := by omega
  refine ⟨by rw [Nat.mul_comm]; exact Nat.div_add_mod u h, ?_, ?_⟩
  · have hy : 0 < h * 4294967296 + l := by omega
    refine (Nat.le_div_iff_mul_le h0).2 ?_
    have h1 : (u * 4294967296 + d) / (h * 4294967296 + l) * (h * 4294967296 + l) ≤ u * 4294967296 + d := Nat.div_mul_le_self _ _
    generalize (u * 4294967296 + d) / (h * 4294967296 + l) = Q at *
    rw [Nat.mul_add] at h1
    have h2 : Q * (h * 4294967296) = Q * h * 4294967296 := by rw [Nat.mul_assoc]
    rw [h2] at h1
    generalize Q * h = a at *
    generalize Q * l = b at *
    omega
  · have h1 : u / h * h ≤ u := Nat.div_mul_le_self _ _
    rcases Nat.lt_or_ge 4294967297 (u / h) with h2 | h2
    · exfalso
      have h3 : 4294967298 * h ≤ u / h * h := Nat.mul_le_mul_right _ h2
      omega
    · exact h2
/-- The guess is too great: the next lower one. -/
theorem KnI.step {u d h l q r : Nat} (_ : 2147483648 ≤ h) (hd : d < 4294967296) (hu : u < h * 4294967296 + l) (H : KnI u d h l q r) (hc : 4294967296 ≤ q ∨ 4294967296 * r + d < q * l) : 0 < q ∧ KnI u d h l (q - 1) (r + h) := by
  obtain ⟨h1, h2, h3⟩ := H
  have hy : 0 < h * 4294967296 + l := by omega
  have hlt : (u * 4294967296 + d) / (h * 4294967296 + l) < q := by
    rcases hc with hc | hc
    · have : (u * 4294967296 + d) / (h * 4294967296 + l) < 4294967296 := by
        rw [Nat.div_lt_iff_lt_mul hy]
        omega
      omega
    · rw [Nat.div_lt_iff_lt_mul hy, Nat.mul_add, ← Nat.mul_assoc, ← h1]
      generalize q * h = a at *
      generalize q * l = b at *
      omega
  have hq : 0 < q := Nat.lt_of_le_of_lt (Nat.zero_le _) hlt
  refine ⟨hq, ?_, Nat.le_sub_one_of_lt hlt, by omega⟩
  obtain ⟨k, rfl⟩ : ∃ k, q = k + 1 := ⟨q - 1, by omega⟩
  rw [Nat.add_mul, Nat.one_mul] at h1
  simp only [Nat.add_sub_cancel]
  omega
/-- The guess is right. -/
theorem KnI.end {u d h l q r : Nat} (hh : 2147483648 ≤ h) (H : KnI u d h l q r) (hc : q * l ≤ 4294967296 * r + d) : q = (u * 4294967296 + d) / (h * 4294967296 + l) := by
  obtain ⟨h1, h2, h3⟩ := H
  have hy : 0 < h * 4294967296 + l := by omega
  refine Nat.le_antisymm ?_ h2
  refine (Nat.le_div_iff_mul_le hy).2 ?_
  rw [Nat.mul_add, ← Nat.mul_assoc, ← h1]
  generalize q * h = a at *
  generalize q * l = b at *
  omega
theorem KnI.out {u d h l q r : Nat} (hh : 2147483648 ≤ h) (hl : l < 4294967296) (H : KnI u d h l q r) (hq : q ≤ 4294967296) (hr : 4294967296 ≤ r) : q = (u * 4294967296 + d) / (h * 4294967296 + l) := by
  refine H.end hh ?_
  have h1 : q * l ≤ 4294967296 * r := Nat.mul_le_mul hq (by omega)
  exact Nat.le_trans h1 (Nat.le_add_right _ _)
theorem KnI.mul_le {u d h l q r : Nat} (hl : l < 4294967296) (H : KnI u d h l q r) : q * l ≤ 18446744073709551615 := by
  have h1 : q * l ≤ 4294967297 * 4294967295 := Nat.mul_le_mul H.le (by omega)
  simpa using h1
theorem two_digits (b u1 d1 d0 y : Nat) (hy : 0 < y) : ((u1 * b + d1) * b + d0) / y = (u1 * b + d1) / y * b + ((u1 * b + d1) % y * b + d0) / y ∧
    ((u1 * b + d1) * b + d0) % y = ((u1 * b + d1) % y * b + d0) % y := by
  have h1 := Nat.div_add_mod (u1 * b + d1) y
  generalize (u1 * b + d1) / y = q at *
  generalize (u1 * b + d1) % y = r at *
  rw [← h1]
  have e : (y * q + r) * b + d0 = y * (q * b) + (r * b + d0) := by
    rw [Nat.add_mul, Nat.mul_assoc]; omega
  rw [e, Nat.mul_add_div hy, Nat.mul_add_mod]
  exact ⟨rfl, rfl⟩
/-- Two digits make the whole quotient. -/
theorem knuth_two (u1 d1 d0 y : Nat) (hy : 0 < y) : ((u1 * 4294967296 + d1) * 4294967296 + d0) / y = (u1 * 4294967296 + d1) / y * 4294967296 + ((u1 * 4294967296 + d1) % y * 4294967296 + d0) / y ∧
    ((u1 * 4294967296 + d1) * 4294967296 + d0) % y = ((u1 * 4294967296 + d1) % y * 4294967296 + d0) % y := two_digits 4294967296 u1 d1 d0 y hy
/-- A quotient by a shifted divisor. -/
theorem shift_div (u y p : Nat) (hp : 0 < p) : u * p / (y * p) = u / y ∧ u * p % (y * p) = u % y * p := by
  constructor
  · exact Nat.mul_div_mul_right u y hp
  · exact Nat.mul_mod_mul_right p u y
end Go.Proofs.Ytilhhbjdcdediaa
