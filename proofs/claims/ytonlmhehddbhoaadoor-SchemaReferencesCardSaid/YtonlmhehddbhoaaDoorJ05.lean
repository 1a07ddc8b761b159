/-
  A tape of numbers: worlds that are later ones but for the place of the tape, and what its next number is. The names that the tape's Schema gives: a letter and a number. Rows of expressions that a call makes, and the program's Shift: for all expressions whose lists are short, a new tree with the columns shifted.
-/
import Derived.Test.YtonlmhehddbhoaaDoorChecked
import Derived.Test.YtonlmhehddbhoaaDoorJ04
import Derived.Deep.Slices
import Derived.Deep.Strs
import Derived.Deep.Fields
import Derived.ProofKit
import Derived.Laws.AppendOwn
import Derived.Lib.SmallJoins
import Derived.Lib.Hide
import Derived.LoopTactic
import Derived.BigQuiet
import Derived.Deep.QuietTactic
import Derived.Laws.IdiomStrings
import Derived.Test.YtonlmhehddbhoaaDoorJ01
import Derived.Maps.AppendAt
import Derived.OwnWalk
import Derived.Laws.Entries
set_option linter.unusedVariables false
namespace Go.Proofs.YtonlmhehddbhoaaDoor
open Go Go.RowKit Go.Deep

/-- A later world: all that was there is as it was, but for block T. -/
structure Tp (T : Nat) (w w' : World) : Prop where
  os : w'.os = w.os
  tape : w'.tape = w.tape
  output : w'.output = w.output
  size : w.heap.size ≤ w'.heap.size
  block : ∀ k, k < w.heap.size → k ≠ T → w'.heap[k]? = w.heap[k]?
namespace Tp
theorem refl (T : Nat) (w : World) : Tp T w w := ⟨rfl, rfl, rfl, Nat.le_refl _, fun _ _ _ => rfl⟩
theorem trans {T : Nat} {a b c : World} (h : Tp T a b) (k : Tp T b c) : Tp T a c :=
  ⟨k.os.trans h.os, k.tape.trans h.tape, k.output.trans h.output, Nat.le_trans h.size k.size, fun i hi hT => (k.block i (Nat.lt_of_lt_of_le hi h.size) hT).trans (h.block i hi hT)⟩
theorem ofBelow {T : Nat} {w w' : World} (h : Below w.heap.size w w') : Tp T w w' := ⟨h.os, h.tape, h.output, h.size, fun k hk _ => h.block k hk⟩
theorem ext {T : Nat} {w0 w : World} (h : Tp T w0 w) (x : Ext w) : Tp T w0 x.val := h.trans (ofBelow x.below)
theorem drew {T : Nat} {w0 w : World} (h : Tp T w0 w) : Tp T w0 w.drew := h.trans (ofBelow (Below.refl _ _).drew)
theorem alloc {T : Nat} {w0 w : World} (h : Tp T w0 w) (o : Obj) : Tp T w0 (w.alloc o) := h.trans (ofBelow ((Below.refl _ _).alloc (Nat.le_refl _) o))
theorem setCell {T : Nat} {w0 w : World} (h : Tp T w0 w) {p : Addr} (hp : w0.heap.size ≤ p.block ∨ p.block = T) (u : Value) : Tp T w0 (w.setCell p u) :=
  ⟨h.os, h.tape, h.output, by simpa [World.setCell] using h.size, fun k hk hT => (Below.heap_setCell _ _ _ _ (by rcases hp with hp | hp <;> omega)).trans (h.block k hk hT)⟩
theorem toBelow {T B : Nat} {w w' : World} (h : Tp T w w') (hB : B ≤ w.heap.size) (hT : B ≤ T) : Below B w w' := ⟨h.os, h.tape, h.output, h.size, fun k hk => h.block k (by omega) (by omega)⟩
theorem cell {T : Nat} {w w' : World} (h : Tp T w w') {b : Nat} (o : Nat) (hb : b < w.heap.size) (hT : b ≠ T) : w'.cell? ⟨b, o, none⟩ = w.cell? ⟨b, o, none⟩ := World.cell?_of_block (w := w) (h.block b hb hT)
theorem frozen {T : Nat} {w w' : World} (h : Tp T w w') {b : Nat} (o : Nat) (hb : b < w.heap.size) (hT : b ≠ T) : w'.frozen? ⟨b, o, none⟩ = w.frozen? ⟨b, o, none⟩ := World.frozen?_of_block (w := w) (h.block b hb hT)
end Tp

/-- Block T holds a tape that has been read at most m times; its numbers lie elsewhere. -/
def TapeAt (T m : Nat) (w : World) : Prop := ∃ (a : Option Addr) (len cap p : Nat), w.heap[T]? = some (.cells #[.slice a len cap, .int .i64 (p : Nat)] 25) ∧ p ≤ m ∧ len ≤ maxLen ∧
  (len = 0 ∨ ∃ b off, a = some ⟨b, off, none⟩ ∧ b < T ∧ ∀ i, i < len → ∃ n : Int, (Lit.int .i64 n).wf = true ∧ w.cell? ⟨b, off + i, none⟩ = some (.int .i64 n))
namespace TapeAt
theorem lt {T m : Nat} {w : World} (h : TapeAt T m w) : T < w.heap.size := by
  obtain ⟨a, len, cap, p, h1, _⟩ := h
  exact (Array.getElem?_eq_some_iff.1 h1).1
theorem mono {T m m' : Nat} {w : World} (h : TapeAt T m w) (hm : m ≤ m') : TapeAt T m' w := by
  obtain ⟨a, len, cap, p, h1, h2, h3⟩ := h
  exact ⟨a, len, cap, p, h1, by omega, h3⟩
/-- What lies up to the tape is as it was. -/
theorem upto {T m : Nat} {w w' : World} (h : TapeAt T m w) (hb : Below (T + 1) w w') : TapeAt T m w' := by
  obtain ⟨a, len, cap, p, h1, h2, h3, h4⟩ := h
  refine ⟨a, len, cap, p, (hb.block T (by omega)).trans h1, h2, h3, h4.imp id ?_⟩
  rintro ⟨b, off, ha, hlt, hc⟩
  refine ⟨b, off, ha, hlt, fun i hi => ?_⟩
  obtain ⟨n, hn, hq⟩ := hc i hi
  exact ⟨n, hn, by rw [hb.cell (p := ⟨b, _, none⟩) (show b < T + 1 by omega)]; exact hq⟩
theorem later {T m : Nat} {w w' : World} (h : TapeAt T m w) (hb : Below w.heap.size w w') : TapeAt T m w' := h.upto (hb.mono h.lt)
end TapeAt
theorem Tp.grown {T : Nat} {a w w' : World} {row : Option Nat} (h : Tp T a w) (hg : w.grownBy w' row) (hr : ∀ k, row = some k → a.heap.size ≤ k) : Tp T a w' :=
  ⟨hg.os.trans h.os, hg.tape.trans h.tape, hg.output.trans h.output, Nat.le_trans h.size hg.size, fun k hk hT => (hg.block k (Nat.lt_of_lt_of_le hk h.size) (fun e => by have := hr k e.symm; omega)).trans (h.block k hk hT)⟩
/-- A later world of w, but for the tape at T, which has been read at most m times. -/
structure Lat (T m : Nat) (w : World) where
  val : World
  tp : Tp T w val
  at_ : TapeAt T m val
namespace Lat
variable {T m : Nat} {w : World}
@[go_sem] theorem cell (x : Lat T m w) {b : Nat} (o : Nat) (h : b < w.heap.size) (hT : b ≠ T) : x.val.cell? ⟨b, o, none⟩ = w.cell? ⟨b, o, none⟩ := x.tp.cell o h hT
@[go_sem] theorem frozen (x : Lat T m w) {b : Nat} (o : Nat) (h : b < w.heap.size) (hT : b ≠ T) : x.val.frozen? ⟨b, o, none⟩ = w.frozen? ⟨b, o, none⟩ := x.tp.frozen o h hT
theorem size (x : Lat T m w) : w.heap.size ≤ x.val.heap.size := x.tp.size
theorem lts (x : Lat T m w) {b : Nat} (h : b < w.heap.size) : b < x.val.heap.size ∧ b < x.val.heap.size + 1 ∧ b < x.val.heap.size + 1 + 1 ∧ b < x.val.heap.size + 1 + 1 + 1 ∧ b < x.val.heap.size + 1 + 1 + 1 + 1 := by
  have := x.size
  refine ⟨?_, ?_, ?_, ?_, ?_⟩ <;> omega
theorem on {w0 : World} (x : Lat T m w) (h : Tp T w0 w) : Tp T w0 x.val := h.trans x.tp
end Lat
theorem own_tp {T : Nat} {w w' : World} {base size n : Nat} {e : TypeId} {v : Value} {xs : List Value} (h : w.ownsRow base e size v n xs) (hb : Tp T w w') (hT : T < base) : w'.ownsRow base e size v n xs := by
  refine ⟨h.1, h.2.imp id ?_⟩
  rintro ⟨g, cap, cur, hv, hg, hh, rest⟩
  exact ⟨g, cap, cur, hv, hg, (hb.block g (Array.getElem?_eq_some_iff.1 hh).1 (by omega)).trans hh, rest⟩
/-- What a call does that reads the tape. -/
def Tq (T m : Nat) (w w' : World) : Prop := ∃ x : Lat T m w, w' = x.val
theorem Tq.of {T m : Nat} {w w' : World} (h : Tp T w w') (h' : TapeAt T m w') : Tq T m w w' := ⟨⟨w', h, h'⟩, rfl⟩

theorem tape_step {T p len cap m : Nat} {w : World} {a : Option Addr} (h1 : w.heap[T]? = some (.cells #[.slice a len cap, .int .i64 (p : Nat)] 25)) (hm : p ≤ m) (h3 : len ≤ maxLen)
    (h4 : len = 0 ∨ ∃ b off, a = some ⟨b, off, none⟩ ∧ b < T ∧ ∀ i, i < len → ∃ n : Int, (Lit.int .i64 n).wf = true ∧ w.cell? ⟨b, off + i, none⟩ = some (.int .i64 n)) (x : Ext w) :
    Tq T (m + 1) w (x.val.setCell ⟨T, 1, none⟩ (.int .i64 ((p : Int) + 1))) := by
  have hT : T < w.heap.size := (Array.getElem?_eq_some_iff.1 h1).1
  refine Tq.of (Tp.setCell (p := ⟨T, 1, none⟩) ((Tp.refl _ _).ext x) (.inr rfl) _) ⟨a, len, cap, p + 1, ?_, by omega, h3, h4.imp id ?_⟩
  · have hx : x.val.heap[T]? = some (.cells #[.slice a len cap, .int .i64 (p : Nat)] 25) := (x.below.block T hT).trans h1
    simp only [World.setCell, Array.getElem?_modify, hx]
    simp
  · rintro ⟨b, off, ha, hlt, hc⟩
    refine ⟨b, off, ha, hlt, fun i hi => ?_⟩
    obtain ⟨n, hn, hq⟩ := hc i hi
    refine ⟨n, hn, Eq.trans ?_ hq⟩
    refine World.cell?_of_block (w := w) ?_
    exact (Below.heap_setCell _ _ _ _ (show b ≠ T by omega)).trans (x.below.block b (by omega))
theorem tmod_bounds (k n : Int) (h : 0 < n) : -n < k.tmod n ∧ k.tmod n < n := by
  constructor
  · have := Int.lt_tmod_of_pos k h; omega
  · exact Int.tmod_lt_of_pos k h
set_option maxHeartbeats 4000000 in
set_option maxRecDepth 20000 in
theorem Next_calls (T m : Nat) (n : Int) (w : World) (h : TapeAt T m w) (hm : m < 2 ^ 62) (hn : n ≤ 2 ^ 62) (hn0 : -2 ^ 62 ≤ n) :
    Calls Tryd.prog 7 #[.pointer (some ⟨T, 0, none⟩), .int .i64 n] w fun e w' => ∃ r : Nat, e = .returned (.int .i64 (r : Nat)) ∧ (r = 0 ∨ (r : Int) < n) ∧ Tq T (m + 1) w w' := by
  by_cases h1 : n < 1
  · have d1 : decide (n < 1) = true := by simpa using h1
    have H := Lib.hid h
    clear h h1
    go_enter Tryd.func7, Tryd.ntmps7
    go_wp2_with fail
    go_ret
    exact ⟨0, rfl, .inl rfl, Tq.of (Tp.refl _ _) (H.out.mono (by omega))⟩
  · have d1 : decide (n < 1) = false := by simpa using h1
    have hT := h.lt
    obtain ⟨a, len, cap, p, e1, e2, e3, e4⟩ := h
    have c0 : w.cell? ⟨T, 0, none⟩ = some (.slice a len cap) := by rw [cell_of_row _ _ _ _ _ (0, 0) e1]; rfl
    have c1 : w.cell? ⟨T, 1, none⟩ = some (.int .i64 (p : Nat)) := by rw [cell_of_row _ _ _ _ _ (0, 0) e1]; rfl
    have f1 : w.frozen? ⟨T, 1, none⟩ = false := by simp [World.frozen?, e1]
    unfold maxLen at e3
    have E1 := Lib.hid e1
    have E4 := Lib.hid e4
    clear e1 e4
    by_cases h2 : p < len
    · obtain ⟨b, off, rfl, hb1, hc⟩ := E4.out.resolve_left (by omega)
      have hb2 : b < w.heap.size := by omega
      obtain ⟨k, hk, q⟩ := hc p h2
      clear hc
      have d2 : decide ((p : Int) < (len : Int)) = true := by simp; omega
      obtain ⟨t1, t2⟩ := tmod_bounds k n (by omega)
      have t3 : k.tmod n + n < 2 ^ 63 := by omega
      go_enter Tryd.func7, Tryd.ntmps7
      go_wp2_with fail
      refine wp_region_ext (by kernel_rfl) (by kernel_rfl) ?_
      repeat (go_big_quiet_step (fail))
      refine wpQuiet_nil ?_
      rintro _ ⟨x, rfl⟩
      go_wp2_with fail
      refine wp_region_on (by kernel_rfl) (by kernel_rfl) ?_
      repeat (go_big_quiet_step (fail))
      refine wpQuiet_nil ?_
      rintro _ ⟨y, rfl⟩
      go_wp2_with fail
      all_goals
        go_ret
      · exact ⟨(k.tmod n + n).toNat, ret_int (by omega), by right; omega, tape_step E1.out e2 e3 E4.out y⟩
      · exact ⟨(k.tmod n).toNat, ret_int (by omega), by right; omega, tape_step E1.out e2 e3 E4.out y⟩
    · have d2 : decide ((p : Int) < (len : Int)) = false := by simp; omega
      go_enter Tryd.func7, Tryd.ntmps7
      go_wp2_with fail
      refine wp_region_ext (by kernel_rfl) (by kernel_rfl) ?_
      repeat (go_big_quiet_step (fail))
      refine wpQuiet_nil ?_
      rintro _ ⟨x, rfl⟩
      go_wp2_with fail
      go_ret
      exact ⟨0, rfl, .inl rfl, tape_step E1.out e2 e3 E4.out x⟩
end Go.Proofs.YtonlmhehddbhoaaDoor
set_option linter.unusedVariables false
namespace Go.Proofs.YtonlmhehddbhoaaDoor
open Go Go.RowKit Go.Deep
/-- A letter and a digit. -/
def nmB (l : ByteArray) (n : Nat) : ByteArray := l ++ ⟨#[48 + UInt8.ofNat n]⟩
theorem cells_one_z {b : Nat} (w : World) (l : List Value) (t : TypeId) (hb : b = w.heap.size) : ∀ j u, l[j]? = some u → (w.alloc (.cells l.toArray t)).cell? ((⟨b, 0, none⟩ : Addr).add j) = some u := by
  subst hb
  intro j u h
  have hadd : (⟨w.heap.size, 0, none⟩ : Addr).add j = ⟨w.heap.size, j, none⟩ := by unfold Addr.add; split <;> simp_all
  rw [hadd, cell_of_row _ _ _ l.toArray t (0, 0) (heap_alloc_new w _)]
  simpa using h
set_option maxHeartbeats 4000000 in
set_option maxRecDepth 20000 in
theorem name_calls (l : ByteArray) (n : Nat) (hl : l.size ≤ 100) (hn : n < 10) (w : World) : Calls Tryd.prog 44 #[.string l, .int .i64 (n : Nat)] w fun e w' => e = .returned (.string (nmB l n)) ∧ Cls w w' := by
  have h8 : ((48 + UInt8.ofNat n : UInt8).toNat : Int) = 48 + (n : Nat) := by
    have : (48 + UInt8.ofNat n : UInt8).toNat = 48 + n := by
      simp
      omega
    rw [this]
    omega
  have kc : (convert 105 9 (.slice (some ⟨w.heap.size, 0, none⟩) 1 1)).run Tryd.prog (w.alloc (.cells #[.int .u8 (48 + (n : Nat))] 5)) = .ok (.string ⟨#[48 + UInt8.ofNat n]⟩) (w.alloc (.cells #[.int .u8 (48 + (n : Nat))] 5)) :=
    run_convert_bytes_back (P := Tryd.prog) (w.alloc (.cells #[.int .u8 (48 + (n : Nat))] 5)) 105 9 5 ⟨w.heap.size, 0, none⟩ 1 [48 + UInt8.ofNat n] Tryd.underlying105 Tryd.underlying5 Tryd.underlying9 (by
      intro j hj
      have hj1 : j < 1 := hj
      obtain rfl : j = 0 := by omega
      show _ = some (Value.int .u8 ((48 + UInt8.ofNat n : UInt8).toNat : Int))
      rw [h8]
      exact cells_one_z w [.int .u8 (48 + (n : Nat))] 5 rfl 0 _ rfl)
  have h10 : (n : Int) % 10 = (n : Nat) := by omega
  have h256 : (48 + (n : Int)) % 256 = 48 + (n : Nat) := by omega
  clear h8
  go_enter Tryd.func44, Tryd.ntmps44
  go_wp2_with fail
  go_ret
  refine ⟨rfl, Cls.of ?_⟩
  repeat first | with_reducible exact Below.refl _ _ | with_reducible refine Below.setCell ?_ (by first | omega | (simp; done) | (simp; omega)) _ | with_reducible refine Below.alloc ?_ (by first | omega | (simp; done) | (simp; omega)) _ | with_reducible refine Below.drew ?_ | with_reducible refine Ext.on _ ?_ (by first | omega | (simp; done) | (simp; omega))
end Go.Proofs.YtonlmhehddbhoaaDoor
set_option linter.unusedVariables false
namespace Go.Proofs.YtonlmhehddbhoaaDoor
open Go Go.RowKit

/-- An expression with the slice of its Kids. -/
structure Rec where
  e : Ex
  a : Option Addr
  len : Nat
  cap : Nat
def Rec.z : Rec := ⟨Ex.z, none, 0, 0⟩
def Rec.cells (r : Rec) : List Value := [.int .i64 r.e.op, .int .i64 r.e.ty, .int .i64 r.e.num, .string r.e.text, .int .i64 r.e.col, .slice r.a r.len r.cap]
def flatR : List Rec → List Value
  | [] => []
  | r :: l => r.cells ++ flatR l
theorem flatR_length (l : List Rec) : (flatR l).length = l.length * 6 := by
  induction l with
  | nil => rfl
  | cons r l ih => simp [flatR, Rec.cells, ih]; omega
theorem flatR_append (l m : List Rec) : flatR (l ++ m) = flatR l ++ flatR m := by
  induction l with
  | nil => rfl
  | cons r l ih => simp [flatR, ih]
theorem flatR_one (l : List Rec) : ∀ u ∈ flatR l, u.oneCell' = true := by
  induction l with
  | nil => intro u h; simp [flatR] at h
  | cons r l ih =>
    intro u h
    simp only [flatR, Rec.cells, List.mem_append, List.mem_cons, List.not_mem_nil, or_false] at h
    rcases h with (rfl | rfl | rfl | rfl | rfl | rfl) | h
    any_goals rfl
    exact ih u h
theorem flatR_at (l : List Rec) : ∀ i, i < l.length → (flatR l)[i * 6]? = some (.int .i64 (l.getD i Rec.z).e.op) ∧ (flatR l)[i * 6 + 1]? = some (.int .i64 (l.getD i Rec.z).e.ty) ∧ (flatR l)[i * 6 + 2]? = some (.int .i64 (l.getD i Rec.z).e.num) ∧
    (flatR l)[i * 6 + 3]? = some (.string (l.getD i Rec.z).e.text) ∧ (flatR l)[i * 6 + 4]? = some (.int .i64 (l.getD i Rec.z).e.col) ∧ (flatR l)[i * 6 + 5]? = some (.slice (l.getD i Rec.z).a (l.getD i Rec.z).len (l.getD i Rec.z).cap) := by
  induction l with
  | nil => intro i h; simp at h
  | cons r l ih =>
    intro i h
    cases i with
    | zero => simp [flatR, Rec.cells]
    | succ i =>
      have h2 := ih i (by simpa using h)
      rw [show (i + 1) * 6 = i * 6 + 6 by omega]
      simpa [flatR, Rec.cells, List.getD] using h2
/-- A row of the call's own that holds these expressions; their Kids lie beside it. -/
def RowOf (w : World) (base : Nat) (v : Value) (rs : List Rec) : Prop :=
  w.ownsRow base 30 6 v rs.length (flatR rs) ∧ ∀ r ∈ rs, r.e.fine ∧ Kids w (fun b => base ≤ b ∧ v.ownBlock ≠ some b) r.a r.len r.cap r.e.kids
theorem own_later {w w' : World} {base size n : Nat} {e : TypeId} {v : Value} {xs : List Value} (h : w.ownsRow base e size v n xs) (hb : Below w.heap.size w w') : w'.ownsRow base e size v n xs := by
  refine ⟨h.1, h.2.imp id ?_⟩
  rintro ⟨g, cap, cur, hv, hg, hh, rest⟩
  exact ⟨g, cap, cur, hv, hg, (hb.block g (Array.getElem?_eq_some_iff.1 hh).1).trans hh, rest⟩
theorem RowOf.nil (w : World) (base : Nat) : RowOf w base (.slice none 0 0) [] := ⟨World.ownsRow_nil w base _ 6, fun r h => by simp at h⟩
theorem RowOf.push {w w1 w3 : World} {base : Nat} {v v' : Value} {rs : List Rec} {r : Rec} {o : Obj} (h : RowOf w base v rs) (hbase : base ≤ w.heap.size) (hb : Below w.heap.size w w1) (hf : r.e.fine) (hk : Kids w1 (fun b => w.heap.size ≤ b) r.a r.len r.cap r.e.kids)
    (hown : w3.ownsRow base 30 6 v' (rs.length + 1) (flatR rs ++ r.cells)) (hg : (w1.alloc o).grownBy w3 v.ownBlock) (hat : v'.ownBlock = v.ownBlock ∨ v'.ownBlock = some (w1.alloc o).heap.size) : RowOf w3 base v' (rs ++ [r]) := by
  have hlt := h.1.lt
  have hs1 := hb.size
  have hs2 : (w1.alloc o).heap.size = w1.heap.size + 1 := by simp
  have hs3 := hg.size
  have hblk : ∀ b, b < w1.heap.size → v.ownBlock ≠ some b → v'.ownBlock ≠ some b ∧ w3.heap[b]? = w1.heap[b]? := fun b hlt' hne => by
    refine ⟨?_, (hg.block b (by omega) (fun e => hne e.symm)).trans (Below.heap_alloc _ _ _ hlt')⟩
    rcases hat with e | e <;> rw [e]
    · exact hne
    · rw [hs2]; intro e; injection e; omega
  refine ⟨?_, fun q hq => ?_⟩
  · rw [List.length_append, flatR_append]
    simpa [flatR] using hown
  · rcases List.mem_append.1 hq with hq | hq
    · obtain ⟨f, hk0⟩ := h.2 q hq
      refine ⟨f, hk0.carry (by omega) fun b hlt' ⟨hb1, hb2⟩ => ?_⟩
      obtain ⟨g1, g2⟩ := hblk b (by omega) hb2
      exact ⟨⟨hb1, g1⟩, g2.trans (hb.block b hlt')⟩
    · obtain rfl : q = r := by simpa using hq
      refine ⟨hf, hk.carry (by omega) fun b hlt' hb1 => ?_⟩
      obtain ⟨g1, g2⟩ := hblk b hlt' (fun e => by have := hlt b e; omega)
      exact ⟨⟨by omega, g1⟩, g2⟩
theorem RowOf.later {w w' : World} {base : Nat} {v : Value} {rs : List Rec} (h : RowOf w base v rs) (hb : Below w.heap.size w w') : RowOf w' base v rs := ⟨own_later h.1 hb, fun r hr => ⟨(h.2 r hr).1, (h.2 r hr).2.later hb⟩⟩
theorem RowOf.kids {w : World} {base : Nat} {v : Value} {rs : List Rec} (h : RowOf w base v rs) : ∃ a cap, v = .slice a rs.length cap ∧ Kids w (fun b => base ≤ b) a rs.length cap (rs.map Rec.e) := by
  have hr : ∀ i, i < rs.length → rs.getD i Rec.z ∈ rs := fun i hi => by simp [List.getD, hi]
  have he : ∀ i, i < rs.length → (rs.map Rec.e).getD i Ex.z = (rs.getD i Rec.z).e := fun i hi => by simp [List.getD, hi]
  have hin : ∀ i, i < rs.length → (rs.getD i Rec.z).e.fine ∧ Kids w (fun b => base ≤ b) (rs.getD i Rec.z).a (rs.getD i Rec.z).len (rs.getD i Rec.z).cap (rs.getD i Rec.z).e.kids := fun i hi => by
    obtain ⟨f, hk⟩ := h.2 _ (hr i hi)
    exact ⟨f, hk.carry (Nat.le_refl _) fun b _ ⟨h1, _⟩ => ⟨h1, rfl⟩⟩
  rcases h.1.2 with ⟨rfl, h0⟩ | ⟨g, cap, cur, rfl, hb, hh, hn, hc, hs, ht⟩
  · have : rs = [] := List.eq_nil_of_length_eq_zero h0
    subst this
    exact ⟨none, 0, rfl, .none⟩
  · refine ⟨some ⟨g, 0, none⟩, cap, rfl, .mk _ _ _ _ (fun i => (rs.getD i Rec.z).a) (fun i => (rs.getD i Rec.z).len) (fun i => (rs.getD i Rec.z).cap) (by simp) hn hc (fun h => by cases h) (fun i hi => ?_) (fun i hi => by rw [he i hi]; exact (hin i hi).1) (fun i hi => by rw [he i hi]; exact (hin i hi).2)⟩
    rw [he i hi]
    have hcell := World.ownsRow.cells h.1 (g := g) rfl
    have hadd : ∀ j, (⟨g, 0, none⟩ : Addr).add j = ⟨g, 0 + j, none⟩ := fun j => by unfold Addr.add; split <;> simp_all
    obtain ⟨f0, f1, f2, f3, f4, f5⟩ := flatR_at rs i hi
    have c0 := hcell _ _ f0
    have c1 := hcell _ _ f1
    have c2 := hcell _ _ f2
    have c3 := hcell _ _ f3
    have c4 := hcell _ _ f4
    have c5 := hcell _ _ f5
    rw [hadd] at c0 c1 c2 c3 c4 c5
    exact ⟨g, 0, rfl, (Array.getElem?_eq_some_iff.1 hh).1, hb, c0, c1, c2, c3, c4, c5⟩
theorem Kids.set {w : World} {ok : Nat → Prop} {a : Option Addr} {len cap : Nat} {l : List Ex} (h : Kids w ok a len cap l) {p : Addr} {u : Value} (hp : ∀ b, ok b → b ≠ p.block) : Kids (w.setCell p u) ok a len cap l :=
  h.carry (by simp [World.setCell]) fun b _ hok => ⟨hok, Below.heap_setCell _ _ _ _ (hp b hok)⟩

mutual
def shiftE : Ex → Int → Ex
  | .mk o t n s c l, d => .mk o t n s (if o = 5 then wrap64 (c + d) else c) (shiftL l d)
def shiftL : List Ex → Int → List Ex
  | [], _ => []
  | k :: r, d => shiftE k d :: shiftL r d
end
theorem shiftL_map (l : List Ex) (d : Int) : shiftL l d = l.map (shiftE · d) := by
  induction l with
  | nil => rw [shiftL]; rfl
  | cons k r ih => rw [shiftL, ih]; rfl
theorem shiftE_kids (e : Ex) (d : Int) : (shiftE e d).kids = e.kids.map (shiftE · d) := by
  cases e; simp only [shiftE, Ex.kids, shiftL_map]
theorem shiftE_op (e : Ex) (d : Int) : (shiftE e d).op = e.op := by cases e; unfold shiftE; rfl
theorem shiftE_ty (e : Ex) (d : Int) : (shiftE e d).ty = e.ty := by cases e; unfold shiftE; rfl
theorem shiftE_num (e : Ex) (d : Int) : (shiftE e d).num = e.num := by cases e; unfold shiftE; rfl
theorem shiftE_text (e : Ex) (d : Int) : (shiftE e d).text = e.text := by cases e; unfold shiftE; rfl
theorem shiftE_col (e : Ex) (d : Int) : (shiftE e d).col = if e.op = 5 then wrap64 (e.col + d) else e.col := by cases e; unfold shiftE; rfl
/-- Every list of Kids in it is short. -/
inductive Slim : Ex → Prop
  | mk (e : Ex) (h : e.kids.length ≤ 12) (hk : ∀ k ∈ e.kids, Slim k) : Slim e
theorem Slim.le {e : Ex} (h : Slim e) : e.kids.length ≤ 12 := by cases h; assumption
theorem Slim.kid {e : Ex} (h : Slim e) : ∀ k ∈ e.kids, Slim k := by cases h; assumption
def ShiftIs (e : Ex) (d : Int) (len : Nat) (w : World) (r : Ending) (w' : World) : Prop :=
  ∃ a' cap', r = .returned (.agg #[.int .i64 (shiftE e d).op, .int .i64 (shiftE e d).ty, .int .i64 (shiftE e d).num, .string (shiftE e d).text, .int .i64 (shiftE e d).col, .slice a' len cap']) ∧ Kids w' (fun b => w.heap.size ≤ b) a' len cap' (shiftE e d).kids ∧ Cls w w'
theorem wrap64_bounds (x : Int) : IntKind.i64.min ≤ wrap64 x ∧ wrap64 x ≤ IntKind.i64.max := by
  have h1 : IntKind.i64.min = -9223372036854775808 := by decide
  have h2 : IntKind.i64.max = 9223372036854775807 := by decide
  rw [h1, h2]
  unfold wrap64
  omega
theorem wf_wrap (x : Int) : (Lit.int .i64 (wrap64 x)).wf = true := by
  have h := wrap64_bounds x
  simp only [Lit.wf, Bool.and_eq_true, decide_eq_true_eq]
  exact ⟨h.1, h.2⟩
theorem shiftE_fine {e : Ex} (d : Int) (h : e.fine) : (shiftE e d).fine := by
  obtain ⟨h0, h1, h2, h3, h4⟩ := h
  refine ⟨by rw [shiftE_op]; exact h0, by rw [shiftE_ty]; exact h1, by rw [shiftE_num]; exact h2, by rw [shiftE_text]; exact h3, ?_⟩
  rw [shiftE_col]
  split
  · exact wf_wrap _
  · exact h4
theorem take_map {l : List Ex} {j : Nat} (d : Int) (h : j < l.length) : (l.take (j + 1)).map (shiftE · d) = (l.take j).map (shiftE · d) ++ [shiftE (l.getD j Ex.z) d] := by
  rw [List.take_succ_eq_append_getElem h, List.map_append]
  simp [List.getD, h]
theorem Rec.one (r : Rec) : ∀ u ∈ r.cells, u.oneCell' = true := fun u h => flatR_one [r] u (by simpa [flatR] using h)
theorem cells_new (w : World) (l : List Value) (t : TypeId) : ∀ j u, l[j]? = some u → (w.alloc (.cells l.toArray t)).cell? ((⟨w.heap.size, 0, none⟩ : Addr).add j) = some u := by
  intro j u h
  have hadd : (⟨w.heap.size, 0, none⟩ : Addr).add j = ⟨w.heap.size, j, none⟩ := by unfold Addr.add; split <;> simp_all
  rw [hadd, cell_of_row _ _ _ l.toArray t (0, 0) (heap_alloc_new w _)]
  simpa using h
theorem infoEx : (Tryd.prog.info? 30).map (fun i => (i.zero, i.size, i.bytes)) = some (some (.agg #[.int .i64 0, .int .i64 0, .int .i64 0, .string ⟨#[]⟩, .int .i64 0, .slice none 0 0]), 6, 72) := by kernel_rfl

end Go.Proofs.YtonlmhehddbhoaaDoor
