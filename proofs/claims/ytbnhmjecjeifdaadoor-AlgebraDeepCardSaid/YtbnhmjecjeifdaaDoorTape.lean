/-
  A tape of numbers: worlds that are later ones but for the place of the tape, and what its next number is.
-/
import Derived.Test.YtbnhmjecjeifdaaDoorChecked
import Derived.Test.YtbnhmjecjeifdaaDoorLin
import Derived.Deep.Slices
import Derived.Deep.Strs
import Derived.Deep.Fields
import Derived.ProofKit
import Derived.Laws.AppendOwn
import Derived.Lib.SmallJoins
import Derived.Lib.Hide
import Derived.LoopTactic
import Derived.BigQuiet
import Derived.Deep.QuietTactic
set_option linter.unusedVariables false
namespace Go.Proofs.YtbnhmjecjeifdaaDoor
open Go Go.RowKit Go.Deep

/-- A later world: all that was there is as it was, but for block T. -/
structure Tp (T : Nat) (w w' : World) : Prop where
  os : w'.os = w.os
  tape : w'.tape = w.tape
  output : w'.output = w.output
  size : w.heap.size ≤ w'.heap.size
  block : ∀ k, k < w.heap.size → k ≠ T → w'.heap[k]? = w.heap[k]?
namespace Tp
theorem refl (T : Nat) (w : World) : Tp T w w := ⟨rfl, rfl, rfl, Nat.le_refl _, fun _ _ _ => rfl⟩
theorem trans {T : Nat} {a b c : World} (h : Tp T a b) (k : Tp T b c) : Tp T a c :=
  ⟨k.os.trans h.os, k.tape.trans h.tape, k.output.trans h.output, Nat.le_trans h.size k.size, fun i hi hT => (k.block i (Nat.lt_of_lt_of_le hi h.size) hT).trans (h.block i hi hT)⟩
theorem ofBelow {T : Nat} {w w' : World} (h : Below w.heap.size w w') : Tp T w w' := ⟨h.os, h.tape, h.output, h.size, fun k hk _ => h.block k hk⟩
theorem ext {T : Nat} {w0 w : World} (h : Tp T w0 w) (x : Ext w) : Tp T w0 x.val := h.trans (ofBelow x.below)
theorem drew {T : Nat} {w0 w : World} (h : Tp T w0 w) : Tp T w0 w.drew := h.trans (ofBelow (Below.refl _ _).drew)
theorem alloc {T : Nat} {w0 w : World} (h : Tp T w0 w) (o : Obj) : Tp T w0 (w.alloc o) := h.trans (ofBelow ((Below.refl _ _).alloc (Nat.le_refl _) o))
theorem setCell {T : Nat} {w0 w : World} (h : Tp T w0 w) {p : Addr} (hp : w0.heap.size ≤ p.block ∨ p.block = T) (u : Value) : Tp T w0 (w.setCell p u) :=
  ⟨h.os, h.tape, h.output, by simpa [World.setCell] using h.size, fun k hk hT => (Below.heap_setCell _ _ _ _ (by rcases hp with hp | hp <;> omega)).trans (h.block k hk hT)⟩
theorem toBelow {T B : Nat} {w w' : World} (h : Tp T w w') (hB : B ≤ w.heap.size) (hT : B ≤ T) : Below B w w' := ⟨h.os, h.tape, h.output, h.size, fun k hk => h.block k (by omega) (by omega)⟩
theorem cell {T : Nat} {w w' : World} (h : Tp T w w') {b : Nat} (o : Nat) (hb : b < w.heap.size) (hT : b ≠ T) : w'.cell? ⟨b, o, none⟩ = w.cell? ⟨b, o, none⟩ := World.cell?_of_block (w := w) (h.block b hb hT)
theorem frozen {T : Nat} {w w' : World} (h : Tp T w w') {b : Nat} (o : Nat) (hb : b < w.heap.size) (hT : b ≠ T) : w'.frozen? ⟨b, o, none⟩ = w.frozen? ⟨b, o, none⟩ := World.frozen?_of_block (w := w) (h.block b hb hT)
end Tp

/-- Block T holds a tape that has been read at most m times; its numbers lie elsewhere. -/
def TapeAt (T m : Nat) (w : World) : Prop := ∃ (a : Option Addr) (len cap p : Nat), w.heap[T]? = some (.cells #[.slice a len cap, .int .i64 (p : Nat)] 34) ∧ p ≤ m ∧ len ≤ maxLen ∧
  (len = 0 ∨ ∃ b off, a = some ⟨b, off, none⟩ ∧ b < T ∧ ∀ i, i < len → ∃ n : Int, (Lit.int .i64 n).wf = true ∧ w.cell? ⟨b, off + i, none⟩ = some (.int .i64 n))
namespace TapeAt
theorem lt {T m : Nat} {w : World} (h : TapeAt T m w) : T < w.heap.size := by
  obtain ⟨a, len, cap, p, h1, _⟩ := h
  exact (Array.getElem?_eq_some_iff.1 h1).1
theorem mono {T m m' : Nat} {w : World} (h : TapeAt T m w) (hm : m ≤ m') : TapeAt T m' w := by
  obtain ⟨a, len, cap, p, h1, h2, h3⟩ := h
  exact ⟨a, len, cap, p, h1, by omega, h3⟩
/-- What lies up to the tape is as it was. -/
theorem upto {T m : Nat} {w w' : World} (h : TapeAt T m w) (hb : Below (T + 1) w w') : TapeAt T m w' := by
  obtain ⟨a, len, cap, p, h1, h2, h3, h4⟩ := h
  refine ⟨a, len, cap, p, (hb.block T (by omega)).trans h1, h2, h3, h4.imp id ?_⟩
  rintro ⟨b, off, ha, hlt, hc⟩
  refine ⟨b, off, ha, hlt, fun i hi => ?_⟩
  obtain ⟨n, hn, hq⟩ := hc i hi
  exact ⟨n, hn, by rw [hb.cell (p := ⟨b, _, none⟩) (show b < T + 1 by omega)]; exact hq⟩
theorem later {T m : Nat} {w w' : World} (h : TapeAt T m w) (hb : Below w.heap.size w w') : TapeAt T m w' := h.upto (hb.mono h.lt)
end TapeAt
theorem Tp.grown {T : Nat} {a w w' : World} {row : Option Nat} (h : Tp T a w) (hg : w.grownBy w' row) (hr : ∀ k, row = some k → a.heap.size ≤ k) : Tp T a w' :=
  ⟨hg.os.trans h.os, hg.tape.trans h.tape, hg.output.trans h.output, Nat.le_trans h.size hg.size, fun k hk hT => (hg.block k (Nat.lt_of_lt_of_le hk h.size) (fun e => by have := hr k e.symm; omega)).trans (h.block k hk hT)⟩
/-- A later world of w, but for the tape at T, which has been read at most m times. -/
structure Lat (T m : Nat) (w : World) where
  val : World
  tp : Tp T w val
  at_ : TapeAt T m val
namespace Lat
variable {T m : Nat} {w : World}
@[go_sem] theorem cell (x : Lat T m w) {b : Nat} (o : Nat) (h : b < w.heap.size) (hT : b ≠ T) : x.val.cell? ⟨b, o, none⟩ = w.cell? ⟨b, o, none⟩ := x.tp.cell o h hT
@[go_sem] theorem frozen (x : Lat T m w) {b : Nat} (o : Nat) (h : b < w.heap.size) (hT : b ≠ T) : x.val.frozen? ⟨b, o, none⟩ = w.frozen? ⟨b, o, none⟩ := x.tp.frozen o h hT
theorem size (x : Lat T m w) : w.heap.size ≤ x.val.heap.size := x.tp.size
theorem lts (x : Lat T m w) {b : Nat} (h : b < w.heap.size) : b < x.val.heap.size ∧ b < x.val.heap.size + 1 ∧ b < x.val.heap.size + 1 + 1 ∧ b < x.val.heap.size + 1 + 1 + 1 ∧ b < x.val.heap.size + 1 + 1 + 1 + 1 := by
  have := x.size
  refine ⟨?_, ?_, ?_, ?_, ?_⟩ <;> omega
theorem on {w0 : World} (x : Lat T m w) (h : Tp T w0 w) : Tp T w0 x.val := h.trans x.tp
end Lat
theorem own_tp {T : Nat} {w w' : World} {base size n : Nat} {e : TypeId} {v : Value} {xs : List Value} (h : w.ownsRow base e size v n xs) (hb : Tp T w w') (hT : T < base) : w'.ownsRow base e size v n xs := by
  refine ⟨h.1, h.2.imp id ?_⟩
  rintro ⟨g, cap, cur, hv, hg, hh, rest⟩
  exact ⟨g, cap, cur, hv, hg, (hb.block g (Array.getElem?_eq_some_iff.1 hh).1 (by omega)).trans hh, rest⟩
/-- What a call does that reads the tape. -/
def Tq (T m : Nat) (w w' : World) : Prop := ∃ x : Lat T m w, w' = x.val
theorem Tq.of {T m : Nat} {w w' : World} (h : Tp T w w') (h' : TapeAt T m w') : Tq T m w w' := ⟨⟨w', h, h'⟩, rfl⟩

theorem tape_step {T p len cap m : Nat} {w : World} {a : Option Addr} (h1 : w.heap[T]? = some (.cells #[.slice a len cap, .int .i64 (p : Nat)] 34)) (hm : p ≤ m) (h3 : len ≤ maxLen)
    (h4 : len = 0 ∨ ∃ b off, a = some ⟨b, off, none⟩ ∧ b < T ∧ ∀ i, i < len → ∃ n : Int, (Lit.int .i64 n).wf = true ∧ w.cell? ⟨b, off + i, none⟩ = some (.int .i64 n)) (x : Ext w) :
    Tq T (m + 1) w (x.val.setCell ⟨T, 1, none⟩ (.int .i64 ((p : Int) + 1))) := by
  have hT : T < w.heap.size := (Array.getElem?_eq_some_iff.1 h1).1
  refine Tq.of (Tp.setCell (p := ⟨T, 1, none⟩) ((Tp.refl _ _).ext x) (.inr rfl) _) ⟨a, len, cap, p + 1, ?_, by omega, h3, h4.imp id ?_⟩
  · have hx : x.val.heap[T]? = some (.cells #[.slice a len cap, .int .i64 (p : Nat)] 34) := (x.below.block T hT).trans h1
    simp only [World.setCell, Array.getElem?_modify, hx]
    simp
  · rintro ⟨b, off, ha, hlt, hc⟩
    refine ⟨b, off, ha, hlt, fun i hi => ?_⟩
    obtain ⟨n, hn, hq⟩ := hc i hi
    refine ⟨n, hn, Eq.trans ?_ hq⟩
    refine World.cell?_of_block (w := w) ?_
    exact (Below.heap_setCell _ _ _ _ (show b ≠ T by omega)).trans (x.below.block b (by omega))
theorem tmod_bounds (k n : Int) (h : 0 < n) : -n < k.tmod n ∧ k.tmod n < n := by
  constructor
  · have := Int.lt_tmod_of_pos k h; omega
  · exact Int.tmod_lt_of_pos k h
set_option maxHeartbeats 4000000 in
set_option maxRecDepth 20000 in
theorem Next_calls (T m : Nat) (n : Int) (w : World) (h : TapeAt T m w) (hm : m < 2 ^ 62) (hn : n ≤ 2 ^ 62) (hn0 : -2 ^ 62 ≤ n) :
    Calls Tryd.prog 17 #[.pointer (some ⟨T, 0, none⟩), .int .i64 n] w fun e w' => ∃ r : Nat, e = .returned (.int .i64 (r : Nat)) ∧ (r = 0 ∨ (r : Int) < n) ∧ Tq T (m + 1) w w' := by
  by_cases h1 : n < 1
  · have d1 : decide (n < 1) = true := by simpa using h1
    have H := Lib.hid h
    clear h h1
    go_enter Tryd.func17, Tryd.ntmps17
    go_wp2_with fail
    go_ret
    exact ⟨0, rfl, .inl rfl, Tq.of (Tp.refl _ _) (H.out.mono (by omega))⟩
  · have d1 : decide (n < 1) = false := by simpa using h1
    have hT := h.lt
    obtain ⟨a, len, cap, p, e1, e2, e3, e4⟩ := h
    have c0 : w.cell? ⟨T, 0, none⟩ = some (.slice a len cap) := by rw [cell_of_row _ _ _ _ _ (0, 0) e1]; rfl
    have c1 : w.cell? ⟨T, 1, none⟩ = some (.int .i64 (p : Nat)) := by rw [cell_of_row _ _ _ _ _ (0, 0) e1]; rfl
    have f1 : w.frozen? ⟨T, 1, none⟩ = false := by simp [World.frozen?, e1]
    unfold maxLen at e3
    have E1 := Lib.hid e1
    have E4 := Lib.hid e4
    clear e1 e4
    by_cases h2 : p < len
    · obtain ⟨b, off, rfl, hb1, hc⟩ := E4.out.resolve_left (by omega)
      have hb2 : b < w.heap.size := by omega
      obtain ⟨k, hk, q⟩ := hc p h2
      clear hc
      have d2 : decide ((p : Int) < (len : Int)) = true := by simp; omega
      obtain ⟨t1, t2⟩ := tmod_bounds k n (by omega)
      have t3 : k.tmod n + n < 2 ^ 63 := by omega
      go_enter Tryd.func17, Tryd.ntmps17
      go_wp2_with fail
      refine wp_region_ext (by kernel_rfl) (by kernel_rfl) ?_
      repeat (go_big_quiet_step (fail))
      refine wpQuiet_nil ?_
      rintro _ ⟨x, rfl⟩
      go_wp2_with fail
      refine wp_region_on (by kernel_rfl) (by kernel_rfl) ?_
      repeat (go_big_quiet_step (fail))
      refine wpQuiet_nil ?_
      rintro _ ⟨y, rfl⟩
      go_wp2_with fail
      all_goals
        go_ret
      · exact ⟨(k.tmod n + n).toNat, ret_int (by omega), by right; omega, tape_step E1.out e2 e3 E4.out y⟩
      · exact ⟨(k.tmod n).toNat, ret_int (by omega), by right; omega, tape_step E1.out e2 e3 E4.out y⟩
    · have d2 : decide ((p : Int) < (len : Int)) = false := by simp; omega
      go_enter Tryd.func17, Tryd.ntmps17
      go_wp2_with fail
      refine wp_region_ext (by kernel_rfl) (by kernel_rfl) ?_
      repeat (go_big_quiet_step (fail))
      refine wpQuiet_nil ?_
      rintro _ ⟨x, rfl⟩
      go_wp2_with fail
      go_ret
      exact ⟨0, rfl, .inl rfl, tape_step E1.out e2 e3 E4.out x⟩
end Go.Proofs.YtbnhmjecjeifdaaDoor
