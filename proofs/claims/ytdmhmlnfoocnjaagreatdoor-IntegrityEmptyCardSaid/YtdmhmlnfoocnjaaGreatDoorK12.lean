/-
  A tape of numbers.
-/
import Derived.Test.YtdmhmlnfoocnjaaGreatDoorChecked
import Derived.Test.YtdmhmlnfoocnjaaGreatDoorK11
import Derived.Deep.Slices
import Derived.Deep.Strs
import Derived.Deep.Fields
import Derived.ProofKit
import Derived.Laws.AppendOwn
import Derived.Lib.SmallJoins
import Derived.Lib.Hide
import Derived.LoopTactic
import Derived.BigQuiet
import Derived.Deep.QuietTactic
import Derived.Laws.IdiomStrings
import Derived.Test.YtdmhmlnfoocnjaaGreatDoorK01
import Derived.Maps.AppendAt
import Derived.OwnWalk
import Derived.Laws.Entries
import Derived.Test.YtdmhmlnfoocnjaaGreatDoorK02
import Derived.Laws.OwnMore
set_option linter.unusedVariables false
namespace Go.Proofs.YtdmhmlnfoocnjaaGreatDoor
open Go Go.RowKit Go.Deep

structure Tp (T : Nat) (w w' : World) : Prop where
  os : w'.os = w.os
  tape : w'.tape = w.tape
  output : w'.output = w.output
  size : w.heap.size ≤ w'.heap.size
  block : ∀ k, k < w.heap.size → k ≠ T → w'.heap[k]? = w.heap[k]?
namespace Tp
theorem refl (T : Nat) (w : World) : Tp T w w := ⟨rfl, rfl, rfl, Nat.le_refl _, fun _ _ _ => rfl⟩
theorem trans {T : Nat} {a b c : World} (h : Tp T a b) (k : Tp T b c) : Tp T a c :=
  ⟨k.os.trans h.os, k.tape.trans h.tape, k.output.trans h.output, Nat.le_trans h.size k.size, fun i hi hT => (k.block i (Nat.lt_of_lt_of_le hi h.size) hT).trans (h.block i hi hT)⟩
theorem ofBelow {T : Nat} {w w' : World} (h : Below w.heap.size w w') : Tp T w w' := ⟨h.os, h.tape, h.output, h.size, fun k hk _ => h.block k hk⟩
theorem ext {T : Nat} {w0 w : World} (h : Tp T w0 w) (x : Ext w) : Tp T w0 x.val := h.trans (ofBelow x.below)
theorem drew {T : Nat} {w0 w : World} (h : Tp T w0 w) : Tp T w0 w.drew := h.trans (ofBelow (Below.refl _ _).drew)
theorem alloc {T : Nat} {w0 w : World} (h : Tp T w0 w) (o : Obj) : Tp T w0 (w.alloc o) := h.trans (ofBelow ((Below.refl _ _).alloc (Nat.le_refl _) o))
theorem setCell {T : Nat} {w0 w : World} (h : Tp T w0 w) {p : Addr} (hp : w0.heap.size ≤ p.block ∨ p.block = T) (u : Value) : Tp T w0 (w.setCell p u) :=
  ⟨h.os, h.tape, h.output, by simpa [World.setCell] using h.size, fun k hk hT => (Below.heap_setCell _ _ _ _ (by rcases hp with hp | hp <;> omega)).trans (h.block k hk hT)⟩
theorem toBelow {T B : Nat} {w w' : World} (h : Tp T w w') (hB : B ≤ w.heap.size) (hT : B ≤ T) : Below B w w' := ⟨h.os, h.tape, h.output, h.size, fun k hk => h.block k (by omega) (by omega)⟩
theorem cell {T : Nat} {w w' : World} (h : Tp T w w') {b : Nat} (o : Nat) (hb : b < w.heap.size) (hT : b ≠ T) : w'.cell? ⟨b, o, none⟩ = w.cell? ⟨b, o, none⟩ := World.cell?_of_block (w := w) (h.block b hb hT)
theorem frozen {T : Nat} {w w' : World} (h : Tp T w w') {b : Nat} (o : Nat) (hb : b < w.heap.size) (hT : b ≠ T) : w'.frozen? ⟨b, o, none⟩ = w.frozen? ⟨b, o, none⟩ := World.frozen?_of_block (w := w) (h.block b hb hT)
end Tp

def TapeAt (T m : Nat) (w : World) : Prop := ∃ (a : Option Addr) (len cap p : Nat), w.heap[T]? = some (.cells #[.slice a len cap, .int .i64 (p : Nat)] 25) ∧ p ≤ m ∧ len ≤ maxLen ∧
  (len = 0 ∨ ∃ b off, a = some ⟨b, off, none⟩ ∧ b < T ∧ ∀ i, i < len → ∃ n : Int, (Lit.int .i64 n).wf = true ∧ w.cell? ⟨b, off + i, none⟩ = some (.int .i64 n))
namespace TapeAt
theorem lt {T m : Nat} {w : World} (h : TapeAt T m w) : T < w.heap.size := by
  obtain ⟨a, len, cap, p, h1, _⟩ := h
  exact (Array.getElem?_eq_some_iff.1 h1).1
theorem mono {T m m' : Nat} {w : World} (h : TapeAt T m w) (hm : m ≤ m') : TapeAt T m' w := by
  obtain ⟨a, len, cap, p, h1, h2, h3⟩ := h
  exact ⟨a, len, cap, p, h1, by omega, h3⟩
theorem upto {T m : Nat} {w w' : World} (h : TapeAt T m w) (hb : Below (T + 1) w w') : TapeAt T m w' := by
  obtain ⟨a, len, cap, p, h1, h2, h3, h4⟩ := h
  refine ⟨a, len, cap, p, (hb.block T (by omega)).trans h1, h2, h3, h4.imp id ?_⟩
  rintro ⟨b, off, ha, hlt, hc⟩
  refine ⟨b, off, ha, hlt, fun i hi => ?_⟩
  obtain ⟨n, hn, hq⟩ := hc i hi
  exact ⟨n, hn, by rw [hb.cell (p := ⟨b, _, none⟩) (show b < T + 1 by omega)]; exact hq⟩
theorem later {T m : Nat} {w w' : World} (h : TapeAt T m w) (hb : Below w.heap.size w w') : TapeAt T m w' := h.upto (hb.mono h.lt)
end TapeAt
theorem Tp.grown {T : Nat} {a w w' : World} {row : Option Nat} (h : Tp T a w) (hg : w.grownBy w' row) (hr : ∀ k, row = some k → a.heap.size ≤ k) : Tp T a w' :=
  ⟨hg.os.trans h.os, hg.tape.trans h.tape, hg.output.trans h.output, Nat.le_trans h.size hg.size, fun k hk hT => (hg.block k (Nat.lt_of_lt_of_le hk h.size) (fun e => by have := hr k e.symm; omega)).trans (h.block k hk hT)⟩
structure Lat (T m : Nat) (w : World) where
  val : World
  tp : Tp T w val
  at_ : TapeAt T m val
namespace Lat
variable {T m : Nat} {w : World}
@[go_sem] theorem cell (x : Lat T m w) {b : Nat} (o : Nat) (h : b < w.heap.size) (hT : b ≠ T) : x.val.cell? ⟨b, o, none⟩ = w.cell? ⟨b, o, none⟩ := x.tp.cell o h hT
@[go_sem] theorem frozen (x : Lat T m w) {b : Nat} (o : Nat) (h : b < w.heap.size) (hT : b ≠ T) : x.val.frozen? ⟨b, o, none⟩ = w.frozen? ⟨b, o, none⟩ := x.tp.frozen o h hT
theorem size (x : Lat T m w) : w.heap.size ≤ x.val.heap.size := x.tp.size
theorem lts (x : Lat T m w) {b : Nat} (h : b < w.heap.size) : b < x.val.heap.size ∧ b < x.val.heap.size + 1 ∧ b < x.val.heap.size + 1 + 1 ∧ b < x.val.heap.size + 1 + 1 + 1 ∧ b < x.val.heap.size + 1 + 1 + 1 + 1 := by
  have := x.size
  refine ⟨?_, ?_, ?_, ?_, ?_⟩ <;> omega
theorem on {w0 : World} (x : Lat T m w) (h : Tp T w0 w) : Tp T w0 x.val := h.trans x.tp
end Lat
theorem own_tp {T : Nat} {w w' : World} {base size n : Nat} {e : TypeId} {v : Value} {xs : List Value} (h : w.ownsRow base e size v n xs) (hb : Tp T w w') (hT : T < base) : w'.ownsRow base e size v n xs := by
  refine ⟨h.1, h.2.imp id ?_⟩
  rintro ⟨g, cap, cur, hv, hg, hh, rest⟩
  exact ⟨g, cap, cur, hv, hg, (hb.block g (Array.getElem?_eq_some_iff.1 hh).1 (by omega)).trans hh, rest⟩
def Tq (T m : Nat) (w w' : World) : Prop := ∃ x : Lat T m w, w' = x.val
theorem Tq.of {T m : Nat} {w w' : World} (h : Tp T w w') (h' : TapeAt T m w') : Tq T m w w' := ⟨⟨w', h, h'⟩, rfl⟩

theorem tape_step {T p len cap m : Nat} {w : World} {a : Option Addr} (h1 : w.heap[T]? = some (.cells #[.slice a len cap, .int .i64 (p : Nat)] 25)) (hm : p ≤ m) (h3 : len ≤ maxLen)
    (h4 : len = 0 ∨ ∃ b off, a = some ⟨b, off, none⟩ ∧ b < T ∧ ∀ i, i < len → ∃ n : Int, (Lit.int .i64 n).wf = true ∧ w.cell? ⟨b, off + i, none⟩ = some (.int .i64 n)) (x : Ext w) :
    Tq T (m + 1) w (x.val.setCell ⟨T, 1, none⟩ (.int .i64 ((p : Int) + 1))) := by
  have hT : T < w.heap.size := (Array.getElem?_eq_some_iff.1 h1).1
  refine Tq.of (Tp.setCell (p := ⟨T, 1, none⟩) ((Tp.refl _ _).ext x) (.inr rfl) _) ⟨a, len, cap, p + 1, ?_, by omega, h3, h4.imp id ?_⟩
  · have hx : x.val.heap[T]? = some (.cells #[.slice a len cap, .int .i64 (p : Nat)] 25) := (x.below.block T hT).trans h1
    simp only [World.setCell, Array.getElem?_modify, hx]
    simp
  · rintro ⟨b, off, ha, hlt, hc⟩
    refine ⟨b, off, ha, hlt, fun i hi => ?_⟩
    obtain ⟨n, hn, hq⟩ := hc i hi
    refine ⟨n, hn, Eq.trans ?_ hq⟩
    refine World.cell?_of_block (w := w) ?_
    exact (Below.heap_setCell _ _ _ _ (show b ≠ T by omega)).trans (x.below.block b (by omega))
theorem tmod_bounds (k n : Int) (h : 0 < n) : -n < k.tmod n ∧ k.tmod n < n := by
  constructor
  · have := Int.lt_tmod_of_pos k h; omega
  · exact Int.tmod_lt_of_pos k h
set_option maxHeartbeats 4000000 in
set_option maxRecDepth 20000 in
theorem Next_calls (T m : Nat) (n : Int) (w : World) (h : TapeAt T m w) (hm : m < 2 ^ 62) (hn : n ≤ 2 ^ 62) (hn0 : -2 ^ 62 ≤ n) :
    Calls Tryz.prog 21 #[.pointer (some ⟨T, 0, none⟩), .int .i64 n] w fun e w' => ∃ r : Nat, e = .returned (.int .i64 (r : Nat)) ∧ (r = 0 ∨ (r : Int) < n) ∧ Tq T (m + 1) w w' := by
  by_cases h1 : n < 1
  · have d1 : decide (n < 1) = true := by simpa using h1
    have H := Lib.hid h
    clear h h1
    go_enter Tryz.func21, Tryz.ntmps21
    go_wp2_with fail
    go_ret
    exact ⟨0, rfl, .inl rfl, Tq.of (Tp.refl _ _) (H.out.mono (by omega))⟩
  · have d1 : decide (n < 1) = false := by simpa using h1
    have hT := h.lt
    obtain ⟨a, len, cap, p, e1, e2, e3, e4⟩ := h
    have c0 : w.cell? ⟨T, 0, none⟩ = some (.slice a len cap) := by rw [cell_of_row _ _ _ _ _ (0, 0) e1]; rfl
    have c1 : w.cell? ⟨T, 1, none⟩ = some (.int .i64 (p : Nat)) := by rw [cell_of_row _ _ _ _ _ (0, 0) e1]; rfl
    have f1 : w.frozen? ⟨T, 1, none⟩ = false := by simp [World.frozen?, e1]
    unfold maxLen at e3
    have E1 := Lib.hid e1
    have E4 := Lib.hid e4
    clear e1 e4
    by_cases h2 : p < len
    · obtain ⟨b, off, rfl, hb1, hc⟩ := E4.out.resolve_left (by omega)
      have hb2 : b < w.heap.size := by omega
      obtain ⟨k, hk, q⟩ := hc p h2
      clear hc
      have d2 : decide ((p : Int) < (len : Int)) = true := by simp; omega
      obtain ⟨t1, t2⟩ := tmod_bounds k n (by omega)
      have t3 : k.tmod n + n < 2 ^ 63 := by omega
      go_enter Tryz.func21, Tryz.ntmps21
      go_wp2_with fail
      refine wp_region_ext (by kernel_rfl) (by kernel_rfl) ?_
      repeat (go_big_quiet_step (fail))
      refine wpQuiet_nil ?_
      rintro _ ⟨x, rfl⟩
      go_wp2_with fail
      refine wp_region_on (by kernel_rfl) (by kernel_rfl) ?_
      repeat (go_big_quiet_step (fail))
      refine wpQuiet_nil ?_
      rintro _ ⟨y, rfl⟩
      go_wp2_with fail
      all_goals
        go_ret
      · exact ⟨(k.tmod n + n).toNat, ret_int (by omega), by right; omega, tape_step E1.out e2 e3 E4.out y⟩
      · exact ⟨(k.tmod n).toNat, ret_int (by omega), by right; omega, tape_step E1.out e2 e3 E4.out y⟩
    · have d2 : decide ((p : Int) < (len : Int)) = false := by simp; omega
      go_enter Tryz.func21, Tryz.ntmps21
      go_wp2_with fail
      refine wp_region_ext (by kernel_rfl) (by kernel_rfl) ?_
      repeat (go_big_quiet_step (fail))
      refine wpQuiet_nil ?_
      rintro _ ⟨x, rfl⟩
      go_wp2_with fail
      go_ret
      exact ⟨0, rfl, .inl rfl, tape_step E1.out e2 e3 E4.out x⟩
end Go.Proofs.YtdmhmlnfoocnjaaGreatDoor
set_option linter.unusedVariables false
namespace Go.Proofs.YtdmhmlnfoocnjaaGreatDoor
open Go Go.RowKit Go.Deep
def nmB (l : ByteArray) (n : Nat) : ByteArray := l ++ ⟨#[48 + UInt8.ofNat n]⟩
theorem cells_one_z {b : Nat} (w : World) (l : List Value) (t : TypeId) (hb : b = w.heap.size) : ∀ j u, l[j]? = some u → (w.alloc (.cells l.toArray t)).cell? ((⟨b, 0, none⟩ : Addr).add j) = some u := by
  subst hb
  intro j u h
  have hadd : (⟨w.heap.size, 0, none⟩ : Addr).add j = ⟨w.heap.size, j, none⟩ := by unfold Addr.add; split <;> simp_all
  rw [hadd, cell_of_row _ _ _ l.toArray t (0, 0) (heap_alloc_new w _)]
  simpa using h
set_option maxHeartbeats 4000000 in
set_option maxRecDepth 20000 in
theorem name_calls (l : ByteArray) (n : Nat) (hl : l.size ≤ 100) (hn : n < 10) (w : World) : Calls Tryz.prog 23 #[.string l, .int .i64 (n : Nat)] w fun e w' => e = .returned (.string (nmB l n)) ∧ Cls w w' := by
  have h8 : ((48 + UInt8.ofNat n : UInt8).toNat : Int) = 48 + (n : Nat) := by
    have : (48 + UInt8.ofNat n : UInt8).toNat = 48 + n := by
      simp
      omega
    rw [this]
    omega
  have kc : (convert 92 9 (.slice (some ⟨w.heap.size, 0, none⟩) 1 1)).run Tryz.prog (w.alloc (.cells #[.int .u8 (48 + (n : Nat))] 5)) = .ok (.string ⟨#[48 + UInt8.ofNat n]⟩) (w.alloc (.cells #[.int .u8 (48 + (n : Nat))] 5)) :=
    run_convert_bytes_back (P := Tryz.prog) (w.alloc (.cells #[.int .u8 (48 + (n : Nat))] 5)) 92 9 5 ⟨w.heap.size, 0, none⟩ 1 [48 + UInt8.ofNat n] Tryz.underlying92 Tryz.underlying5 Tryz.underlying9 (by
      intro j hj
      have hj1 : j < 1 := hj
      obtain rfl : j = 0 := by omega
      show _ = some (Value.int .u8 ((48 + UInt8.ofNat n : UInt8).toNat : Int))
      rw [h8]
      exact cells_one_z w [.int .u8 (48 + (n : Nat))] 5 rfl 0 _ rfl)
  have h10 : (n : Int) % 10 = (n : Nat) := by omega
  have h256 : (48 + (n : Int)) % 256 = 48 + (n : Nat) := by omega
  clear h8
  go_enter Tryz.func23, Tryz.ntmps23
  go_wp2_with fail
  go_ret
  refine ⟨rfl, Cls.of ?_⟩
  repeat first|with_reducible exact Below.refl _ _|with_reducible refine Below.setCell ?_ (by first|omega|(simp;done)|(simp;omega)) _|with_reducible refine Below.alloc ?_ (by first|omega|(simp;done)|(simp;omega)) _|with_reducible refine Below.drew ?_|with_reducible refine Ext.on _ ?_ (by first|omega|(simp;done)|(simp;omega))
end Go.Proofs.YtdmhmlnfoocnjaaGreatDoor
set_option linter.unusedVariables false
namespace Go.Proofs.YtdmhmlnfoocnjaaGreatDoor
open Go Go.RowKit

structure Rec where
  e : Ex
  a : Option Addr
  len : Nat
  cap : Nat
def Rec.z : Rec := ⟨Ex.z, none, 0, 0⟩
def Rec.cells (r : Rec) : List Value := [.int .i64 r.e.op, .int .i64 r.e.ty, .int .i64 r.e.num, .string r.e.text, .int .i64 r.e.col, .slice r.a r.len r.cap]
def flatR : List Rec → List Value
  | [] => []
  | r :: l => r.cells ++ flatR l
theorem flatR_length (l : List Rec) : (flatR l).length = l.length * 6 := by
  induction l with
  | nil => rfl
  | cons r l ih => simp [flatR, Rec.cells, ih]; omega
theorem flatR_append (l m : List Rec) : flatR (l ++ m) = flatR l ++ flatR m := by
  induction l with
  | nil => rfl
  | cons r l ih => simp [flatR, ih]
theorem flatR_one (l : List Rec) : ∀ u ∈ flatR l, u.oneCell' = true := by
  induction l with
  | nil => intro u h; simp [flatR] at h
  | cons r l ih =>
    intro u h
    simp only [flatR, Rec.cells, List.mem_append, List.mem_cons, List.not_mem_nil, or_false] at h
    rcases h with (rfl | rfl | rfl | rfl | rfl | rfl) | h
    any_goals rfl
    exact ih u h
theorem flatR_at (l : List Rec) : ∀ i, i < l.length → (flatR l)[i * 6]? = some (.int .i64 (l.getD i Rec.z).e.op) ∧ (flatR l)[i * 6 + 1]? = some (.int .i64 (l.getD i Rec.z).e.ty) ∧ (flatR l)[i * 6 + 2]? = some (.int .i64 (l.getD i Rec.z).e.num) ∧
    (flatR l)[i * 6 + 3]? = some (.string (l.getD i Rec.z).e.text) ∧ (flatR l)[i * 6 + 4]? = some (.int .i64 (l.getD i Rec.z).e.col) ∧ (flatR l)[i * 6 + 5]? = some (.slice (l.getD i Rec.z).a (l.getD i Rec.z).len (l.getD i Rec.z).cap) := by
  induction l with
  | nil => intro i h; simp at h
  | cons r l ih =>
    intro i h
    cases i with
    | zero => simp [flatR, Rec.cells]
    | succ i =>
      have h2 := ih i (by simpa using h)
      rw [show (i + 1) * 6 = i * 6 + 6 by omega]
      simpa [flatR, Rec.cells, List.getD] using h2
def RowOf (w : World) (base : Nat) (v : Value) (rs : List Rec) : Prop :=
  w.ownsRow base 64 6 v rs.length (flatR rs) ∧ ∀ r ∈ rs, r.e.fine ∧ Kids w (fun b => base ≤ b ∧ v.ownBlock ≠ some b) r.a r.len r.cap r.e.kids
theorem own_later {w w' : World} {base size n : Nat} {e : TypeId} {v : Value} {xs : List Value} (h : w.ownsRow base e size v n xs) (hb : Below w.heap.size w w') : w'.ownsRow base e size v n xs := by
  refine ⟨h.1, h.2.imp id ?_⟩
  rintro ⟨g, cap, cur, hv, hg, hh, rest⟩
  exact ⟨g, cap, cur, hv, hg, (hb.block g (Array.getElem?_eq_some_iff.1 hh).1).trans hh, rest⟩
theorem RowOf.nil (w : World) (base : Nat) : RowOf w base (.slice none 0 0) [] := ⟨World.ownsRow_nil w base _ 6, fun r h => by simp at h⟩
theorem RowOf.push {w w1 w3 : World} {base : Nat} {v v' : Value} {rs : List Rec} {r : Rec} {o : Obj} (h : RowOf w base v rs) (hbase : base ≤ w.heap.size) (hb : Below w.heap.size w w1) (hf : r.e.fine) (hk : Kids w1 (fun b => w.heap.size ≤ b) r.a r.len r.cap r.e.kids)
    (hown : w3.ownsRow base 64 6 v' (rs.length + 1) (flatR rs ++ r.cells)) (hg : (w1.alloc o).grownBy w3 v.ownBlock) (hat : v'.ownBlock = v.ownBlock ∨ v'.ownBlock = some (w1.alloc o).heap.size) : RowOf w3 base v' (rs ++ [r]) := by
  have hlt := h.1.lt
  have hs1 := hb.size
  have hs2 : (w1.alloc o).heap.size = w1.heap.size + 1 := by simp
  have hs3 := hg.size
  have hblk : ∀ b, b < w1.heap.size → v.ownBlock ≠ some b → v'.ownBlock ≠ some b ∧ w3.heap[b]? = w1.heap[b]? := fun b hlt' hne => by
    refine ⟨?_, (hg.block b (by omega) (fun e => hne e.symm)).trans (Below.heap_alloc _ _ _ hlt')⟩
    rcases hat with e | e <;> rw [e]
    · exact hne
    · rw [hs2]; intro e; injection e; omega
  refine ⟨?_, fun q hq => ?_⟩
  · rw [List.length_append, flatR_append]
    simpa [flatR] using hown
  · rcases List.mem_append.1 hq with hq | hq
    · obtain ⟨f, hk0⟩ := h.2 q hq
      refine ⟨f, hk0.carry (by omega) fun b hlt' ⟨hb1, hb2⟩ => ?_⟩
      obtain ⟨g1, g2⟩ := hblk b (by omega) hb2
      exact ⟨⟨hb1, g1⟩, g2.trans (hb.block b hlt')⟩
    · obtain rfl : q = r := by simpa using hq
      refine ⟨hf, hk.carry (by omega) fun b hlt' hb1 => ?_⟩
      obtain ⟨g1, g2⟩ := hblk b hlt' (fun e => by have := hlt b e; omega)
      exact ⟨⟨by omega, g1⟩, g2⟩
theorem RowOf.later {w w' : World} {base : Nat} {v : Value} {rs : List Rec} (h : RowOf w base v rs) (hb : Below w.heap.size w w') : RowOf w' base v rs := ⟨own_later h.1 hb, fun r hr => ⟨(h.2 r hr).1, (h.2 r hr).2.later hb⟩⟩
theorem RowOf.kids {w : World} {base : Nat} {v : Value} {rs : List Rec} (h : RowOf w base v rs) : ∃ a cap, v = .slice a rs.length cap ∧ Kids w (fun b => base ≤ b) a rs.length cap (rs.map Rec.e) := by
  have hr : ∀ i, i < rs.length → rs.getD i Rec.z ∈ rs := fun i hi => by simp [List.getD, hi]
  have he : ∀ i, i < rs.length → (rs.map Rec.e).getD i Ex.z = (rs.getD i Rec.z).e := fun i hi => by simp [List.getD, hi]
  have hin : ∀ i, i < rs.length → (rs.getD i Rec.z).e.fine ∧ Kids w (fun b => base ≤ b) (rs.getD i Rec.z).a (rs.getD i Rec.z).len (rs.getD i Rec.z).cap (rs.getD i Rec.z).e.kids := fun i hi => by
    obtain ⟨f, hk⟩ := h.2 _ (hr i hi)
    exact ⟨f, hk.carry (Nat.le_refl _) fun b _ ⟨h1, _⟩ => ⟨h1, rfl⟩⟩
  rcases h.1.2 with ⟨rfl, h0⟩ | ⟨g, cap, cur, rfl, hb, hh, hn, hc, hs, ht⟩
  · have : rs = [] := List.eq_nil_of_length_eq_zero h0
    subst this
    exact ⟨none, 0, rfl, .none⟩
  · refine ⟨some ⟨g, 0, none⟩, cap, rfl, .mk _ _ _ _ (fun i => (rs.getD i Rec.z).a) (fun i => (rs.getD i Rec.z).len) (fun i => (rs.getD i Rec.z).cap) (by simp) hn hc (fun h => by cases h) (fun i hi => ?_) (fun i hi => by rw [he i hi]; exact (hin i hi).1) (fun i hi => by rw [he i hi]; exact (hin i hi).2)⟩
    rw [he i hi]
    have hcell := World.ownsRow.cells h.1 (g := g) rfl
    have hadd : ∀ j, (⟨g, 0, none⟩ : Addr).add j = ⟨g, 0 + j, none⟩ := fun j => by unfold Addr.add; split <;> simp_all
    obtain ⟨f0, f1, f2, f3, f4, f5⟩ := flatR_at rs i hi
    have c0 := hcell _ _ f0
    have c1 := hcell _ _ f1
    have c2 := hcell _ _ f2
    have c3 := hcell _ _ f3
    have c4 := hcell _ _ f4
    have c5 := hcell _ _ f5
    rw [hadd] at c0 c1 c2 c3 c4 c5
    exact ⟨g, 0, rfl, (Array.getElem?_eq_some_iff.1 hh).1, hb, c0, c1, c2, c3, c4, c5⟩
theorem Kids.set {w : World} {ok : Nat → Prop} {a : Option Addr} {len cap : Nat} {l : List Ex} (h : Kids w ok a len cap l) {p : Addr} {u : Value} (hp : ∀ b, ok b → b ≠ p.block) : Kids (w.setCell p u) ok a len cap l :=
  h.carry (by simp [World.setCell]) fun b _ hok => ⟨hok, Below.heap_setCell _ _ _ _ (hp b hok)⟩

inductive Slim : Ex → Prop
  | mk (e : Ex) (h : e.kids.length ≤ 12) (hk : ∀ k ∈ e.kids, Slim k) : Slim e
theorem Slim.le {e : Ex} (h : Slim e) : e.kids.length ≤ 12 := by cases h; assumption
theorem Rec.one (r : Rec) : ∀ u ∈ r.cells, u.oneCell' = true := fun u h => flatR_one [r] u (by simpa [flatR] using h)
theorem infoEx : (Tryz.prog.info? 64).map (fun i => (i.zero, i.size, i.bytes)) = some (some (.agg #[.int .i64 0, .int .i64 0, .int .i64 0, .string ⟨#[]⟩, .int .i64 0, .slice none 0 0]), 6, 72) := by kernel_rfl

end Go.Proofs.YtdmhmlnfoocnjaaGreatDoor
set_option linter.unusedVariables false
namespace Go.Proofs.YtdmhmlnfoocnjaaGreatDoor
open Go Go.RowKit Go.Deep
theorem heap_alloc_at {b : Nat} (w : World) (o : Obj) (h : b = w.heap.size) : (w.alloc o).heap[b]? = some o := by
  subst h
  exact heap_alloc_new w o
theorem free_z {w : World} {b : Nat} {cs : Array Value} {t : TypeId} (h : w.heap[b]? = some (.cells cs t (0, 0))) (i : Nat) : w.frozen? ⟨b, i, none⟩ = false := by simp [World.frozen?, h]
theorem one_z {W : World} {b : Nat} {a0 : Value} {t : TypeId} (h : W.heap[b]? = some (.cells #[a0] t)) : b < W.heap.size ∧ W.frozen? ⟨b, 0, none⟩ = false ∧ W.cell? ⟨b, 0, none⟩ = some a0 := by
  refine ⟨(Array.getElem?_eq_some_iff.1 h).1, free_z h _, ?_⟩
  rw [cell_of_row _ _ _ _ _ (0, 0) h]
  rfl
theorem six_z {W : World} {b : Nat} {a0 a1 a2 a3 a4 a5 : Value} {t : TypeId} (h : W.heap[b]? = some (.cells #[a0, a1, a2, a3, a4, a5] t)) :
    b < W.heap.size ∧ W.frozen? ⟨b, 0, none⟩ = false ∧ W.frozen? ⟨b, 1, none⟩ = false ∧ W.frozen? ⟨b, 2, none⟩ = false ∧ W.frozen? ⟨b, 3, none⟩ = false ∧ W.frozen? ⟨b, 4, none⟩ = false ∧ W.frozen? ⟨b, 5, none⟩ = false ∧
    W.cell? ⟨b, 0, none⟩ = some a0 ∧ W.cell? ⟨b, 1, none⟩ = some a1 ∧ W.cell? ⟨b, 2, none⟩ = some a2 ∧ W.cell? ⟨b, 3, none⟩ = some a3 ∧ W.cell? ⟨b, 4, none⟩ = some a4 ∧ W.cell? ⟨b, 5, none⟩ = some a5 := by
  refine ⟨(Array.getElem?_eq_some_iff.1 h).1, free_z h _, free_z h _, free_z h _, free_z h _, free_z h _, free_z h _, ?_, ?_, ?_, ?_, ?_, ?_⟩
  all_goals
    rw [cell_of_row _ _ _ _ _ (0, 0) h]
    rfl
theorem own_ne_z {w : World} {base size n : Nat} {e : TypeId} {v : Value} {xs : List Value} (h : w.ownsRow base e size v n xs) {b : Nat} {cs : Array Value} {t : TypeId} (hb : w.heap[b]? = some (.cells cs t)) (ht : t ≠ e) : ∀ k, v.ownBlock = some k → k ≠ b := by
  rintro k hk rfl
  rcases h.2 with ⟨rfl, _⟩ | ⟨g, cap, cur, rfl, _, hh, _⟩
  · simp [Value.ownBlock] at hk
  · simp [Value.ownBlock] at hk
    subst hk
    rw [hb] at hh
    simp only [Option.some.injEq, Obj.cells.injEq] at hh
    exact ht hh.2.1
theorem own_slice_z {w : World} {base size n : Nat} {e : TypeId} {v : Value} {xs : List Value} (h : w.ownsRow base e size v (n + 1) xs) : ∃ g c, v = .slice (some ⟨g, 0, none⟩) (n + 1) c := by
  rcases h.2 with ⟨_, h0⟩ | ⟨g, cap, cur, rfl, _⟩
  · cases h0
  · exact ⟨_, _, rfl⟩
theorem own_block {w w' : World} {base size n : Nat} {e : TypeId} {v : Value} {xs : List Value} (h : w.ownsRow base e size v n xs) (hb : ∀ k, v.ownBlock = some k → w'.heap[k]? = w.heap[k]?) : w'.ownsRow base e size v n xs := by
  refine ⟨h.1, h.2.imp id ?_⟩
  rintro ⟨g, cap, cur, hv, hg, hh, rest⟩
  exact ⟨g, cap, cur, hv, hg, (hb g (by rw [hv]; rfl)).trans hh, rest⟩
theorem own_next {T q : Nat} {w : World} {base size n : Nat} {e : TypeId} {v : Value} {xs : List Value} (h : w.ownsRow base e size v n xs) (z : Lat T q w) (hT : T < base) : z.val.ownsRow base e size v n xs := own_tp h z.tp hT
theorem own_set {w : World} {base size n xb o : Nat} {e : TypeId} {v u : Value} {xs : List Value} (h : w.ownsRow base e size v n xs) (hx : ∀ k, v.ownBlock = some k → k ≠ xb) : (w.setCell ⟨xb, o, none⟩ u).ownsRow base e size v n xs :=
  own_block h fun k hk => Below.heap_setCell _ _ _ _ (hx k hk)
structure Kept (b : Nat) (w : World) where
  val : World
  same : val.heap[b]? = w.heap[b]?
instance (b : Nat) (w : World) : Nonempty (Kept b w) := ⟨⟨w, rfl⟩⟩
@[go_sem] theorem Kept.cell {b : Nat} {w : World} (x : Kept b w) (o : Nat) : x.val.cell? ⟨b, o, none⟩ = w.cell? ⟨b, o, none⟩ := World.cell?_of_block (w := w) x.same
theorem kept_start {b : Nat} {w : World} (hb : b < w.heap.size) (x : Ext w) : ∃ y : Kept b w, x.val = y.val := ⟨⟨x.val, x.below.block b hb⟩, rfl⟩
theorem blk_ne {w : World} {a b : Nat} {c1 c2 : Array Value} {t1 t2 : TypeId} (h1 : w.heap[a]? = some (.cells c1 t1)) (h2 : w.heap[b]? = some (.cells c2 t2)) (h : t1 ≠ t2) : a ≠ b := by
  intro e
  rw [e, h2] at h1
  simp only [Option.some.injEq, Obj.cells.injEq] at h1
  exact h h1.2.1.symm
theorem set_ne {w : World} {b xb i : Nat} {u : Value} {o : Obj} (h : w.heap[b]? = some o) (hb : b ≠ xb) : (w.setCell ⟨xb, i, none⟩ u).heap[b]? = some o := (Below.heap_setCell _ _ _ _ hb).trans h
def SlI (w : World) (k : Nat) (s : Sl) (c : Nat → List Value) (lo hi : Nat) : Prop := SlAt w k s c ∧ ∀ b off, s.a = some ⟨b, off, none⟩ → lo ≤ b ∧ b < hi
theorem SlI.carry {w w' : World} {k : Nat} {s : Sl} {c : Nat → List Value} {lo hi : Nat} (h : SlI w k s c lo hi) (hb : ∀ b, lo ≤ b → b < hi → w'.heap[b]? = w.heap[b]?) (hs : w.heap.size ≤ w'.heap.size) : SlI w' k s c lo hi := by
  refine ⟨⟨h.1.1, h.1.2.1, h.1.2.2.1, fun i hi => ?_⟩, h.2⟩
  obtain ⟨b, off, ha, hlt, hc⟩ := h.1.2.2.2 i hi
  obtain ⟨h1, h2⟩ := h.2 b off ha
  exact ⟨b, off, ha, Nat.lt_of_lt_of_le hlt hs, fun j hj => by rw [World.cell?_of_block (w := w) (hb b h1 h2)]; exact hc j hj⟩
theorem sli_none {w : World} {k lo hi : Nat} {f : Nat → List Value} : SlI w k Sl.z f lo hi := ⟨⟨Nat.le_refl _, Nat.zero_le _, fun _ => ⟨rfl, rfl⟩, fun i hi => absurd hi (Nat.not_lt_zero _)⟩, fun b off h => by cases h⟩
theorem own_sl {w : World} {base k n : Nat} {e : TypeId} {v : Value} {xs : List Value} {cell : Nat → List Value} (h : w.ownsRow base e k v n xs) (hc : ∀ i, i < n → ∀ j, j < k → xs[i * k + j]? = (cell i)[j]?) : ∃ s : Sl, v = s.v ∧ s.len = n ∧ SlI w k s cell base w.heap.size := by
  rcases h.2 with ⟨rfl, h0⟩ | ⟨g, cap, cur, rfl, hb, hh, hn, hm, _, _⟩
  · subst h0
    exact ⟨Sl.z, rfl, rfl, sli_none⟩
  · have hlt := (Array.getElem?_eq_some_iff.1 hh).1
    refine ⟨⟨some ⟨g, 0, none⟩, n, cap⟩, rfl, rfl, ⟨hn, hm, fun e => by simp at e, fun i hi => ⟨g, 0, rfl, hlt, fun j hj => ?_⟩⟩, fun b off hb2 => ?_⟩
    · rw [← hc i hi j hj, Nat.zero_add]
      have hl : i * k + j < n * k := by
        have h3 : (i + 1) * k ≤ n * k := Nat.mul_le_mul_right k hi
        rw [Nat.succ_mul] at h3
        omega
      exact h.cellAt _ hl
    · simp only [Option.some.injEq, Addr.mk.injEq, and_true] at hb2
      obtain ⟨rfl, rfl⟩ := hb2
      exact ⟨hb, hlt⟩
theorem sl_one {w : World} {b : Nat} {v : Value} {t : TypeId} {lo : Nat} (h : w.heap[b]? = some (.cells #[v] t)) (hlo : lo ≤ b) : SlI w 1 ⟨some ⟨b, 0, none⟩, 1, 1⟩ (fun _ => [v]) lo w.heap.size := by
  have hlt := (Array.getElem?_eq_some_iff.1 h).1
  refine ⟨⟨Nat.le_refl _, by unfold maxLen; show 1 ≤ _; omega, fun e => by simp at e, fun i hi => ⟨b, 0, rfl, hlt, fun j hj => ?_⟩⟩, fun b' off hb2 => ?_⟩
  · obtain rfl : j = 0 := by omega
    obtain rfl : i = 0 := by
      have : i < 1 := hi
      omega
    rw [cell_of_row _ _ _ _ _ (0, 0) h]
    rfl
  · simp only [Option.some.injEq, Addr.mk.injEq, and_true] at hb2
    obtain ⟨rfl, rfl⟩ := hb2
    exact ⟨hlo, hlt⟩
structure TbI (w : World) (t : Tb) (lo hi : Nat) : Prop where
  name : t.name.size ≤ maxLen
  cols : SlI w 3 t.cs (fun i => (t.col i).cells) lo hi
  colf : ∀ i, i < t.cs.len → (t.col i).name.size ≤ maxLen ∧ (Lit.int .i64 (t.col i).ty).wf = true
  prim : SlI w 1 t.ps (intC t.prim) lo hi
  uqs : SlI w 1 t.us (fun i => [(t.uq i).v]) lo hi
  uqn : ∀ i, i < t.us.len → SlI w 1 (t.uq i) (intC (t.uqn i)) lo hi
  fks : SlI w 2 t.fs (fun i => [(t.fk i).v, .string (t.fkt i)]) lo hi
  fkn : ∀ i, i < t.fs.len → SlI w 1 (t.fk i) (intC (t.fkn i)) lo hi ∧ (t.fkt i).size ≤ maxLen
  kids : Kids w (fun b => lo ≤ b ∧ b < hi) t.ks.a t.ks.len t.ks.cap t.checks
theorem TbI.carry {w w' : World} {t : Tb} {lo hi : Nat} (h : TbI w t lo hi) (hb : ∀ b, lo ≤ b → b < hi → w'.heap[b]? = w.heap[b]?) (hs : w.heap.size ≤ w'.heap.size) : TbI w' t lo hi :=
  ⟨h.name, h.cols.carry hb hs, h.colf, h.prim.carry hb hs, h.uqs.carry hb hs, fun i hi => (h.uqn i hi).carry hb hs, h.fks.carry hb hs, fun i hi => ⟨(h.fkn i hi).1.carry hb hs, (h.fkn i hi).2⟩, h.kids.carry hs fun b _ ⟨h1, h2⟩ => ⟨⟨h1, h2⟩, hb b h1 h2⟩⟩
theorem TbI.at_ {w : World} {t : Tb} {lo hi : Nat} (h : TbI w t lo hi) : TbAt w t :=
  ⟨h.name, h.cols.1, h.colf, h.prim.1, h.uqs.1, fun i hi => (h.uqn i hi).1, h.fks.1, fun i hi => ⟨(h.fkn i hi).1.1, (h.fkn i hi).2⟩, h.kids.any⟩
structure Fg (T m : Nat) (W : World) (xb pb : Nat) (nm : ByteArray) (cs us fs ks : Value) (wr : World) : Prop where
  tp : Tp T W wr
  tape : TapeAt T m wr
  tlt : T < W.heap.size
  xlo : W.heap.size ≤ xb
  x : wr.heap[xb]? = some (.cells #[.string nm, cs, .slice (some ⟨pb, 0, none⟩) 1 1, us, fs, ks] 55)
  plo : W.heap.size ≤ pb
  pr : wr.heap[pb]? = some (.cells #[.int .i64 0] 3)
namespace Fg
variable {T m m' xb pb : Nat} {W wr : World} {nm : ByteArray} {cs us fs ks : Value}
theorem below {w' : World} (h : Fg T m W xb pb nm cs us fs ks wr) (hb : Below wr.heap.size wr w') : Fg T m W xb pb nm cs us fs ks w' :=
  ⟨h.tp.trans (Tp.ofBelow hb), h.tape.later hb, h.tlt, h.xlo, (hb.block _ (Array.getElem?_eq_some_iff.1 h.x).1).trans h.x, h.plo, (hb.block _ (Array.getElem?_eq_some_iff.1 h.pr).1).trans h.pr⟩
theorem next (h : Fg T m W xb pb nm cs us fs ks wr) (z : Lat T m' wr) : Fg T m' W xb pb nm cs us fs ks z.val := by
  have hT := h.tlt
  have h1 := h.xlo
  have h2 := h.plo
  exact ⟨h.tp.trans z.tp, z.at_, h.tlt, h.xlo, (z.tp.block _ (Array.getElem?_eq_some_iff.1 h.x).1 (by omega)).trans h.x, h.plo, (z.tp.block _ (Array.getElem?_eq_some_iff.1 h.pr).1 (by omega)).trans h.pr⟩
theorem more (h : Fg T m W xb pb nm cs us fs ks wr) (hm : m ≤ m') : Fg T m' W xb pb nm cs us fs ks wr := ⟨h.tp, h.tape.mono hm, h.tlt, h.xlo, h.x, h.plo, h.pr⟩
theorem grown {w' : World} {row : Option Nat} (h : Fg T m W xb pb nm cs us fs ks wr) (hg : wr.grownBy w' row) (hr : ∀ k, row = some k → W.heap.size ≤ k ∧ k ≠ xb ∧ k ≠ pb) : Fg T m W xb pb nm cs us fs ks w' := by
  have hT := h.tlt
  have hb : Below (T + 1) wr w' := Below.grown (Below.refl _ _) hg h.tape.lt fun k hk => by
    have := (hr k hk).1
    omega
  exact ⟨h.tp.grown hg fun k hk => (hr k hk).1, h.tape.upto hb, h.tlt, h.xlo, (hg.block _ (Array.getElem?_eq_some_iff.1 h.x).1 fun e => (hr _ e.symm).2.1 rfl).trans h.x, h.plo, (hg.block _ (Array.getElem?_eq_some_iff.1 h.pr).1 fun e => (hr _ e.symm).2.2 rfl).trans h.pr⟩
theorem ne (h : Fg T m W xb pb nm cs us fs ks wr) : pb ≠ xb := blk_ne h.pr h.x (by decide)
theorem setx (h : Fg T m W xb pb nm cs us fs ks wr) (i : Nat) (v : Value) {cs' us' fs' ks' : Value} (hx : (wr.setCell ⟨xb, i, none⟩ v).heap[xb]? = some (.cells #[.string nm, cs', .slice (some ⟨pb, 0, none⟩) 1 1, us', fs', ks'] 55)) : Fg T m W xb pb nm cs' us' fs' ks' (wr.setCell ⟨xb, i, none⟩ v) := by
  have hT := h.tlt
  have h1 := h.xlo
  exact ⟨h.tp.setCell (.inl (by show W.heap.size ≤ xb; omega)) v, h.tape.upto ((Below.refl _ _).setCell (by show T + 1 ≤ xb; omega) v), h.tlt, h.xlo, hx, h.plo, set_ne h.pr h.ne⟩
theorem set1 (h : Fg T m W xb pb nm cs us fs ks wr) (v : Value) : Fg T m W xb pb nm v us fs ks (wr.setCell ⟨xb, 1, none⟩ v) := h.setx 1 v (by
  simp only [World.setCell, Array.getElem?_modify, h.x]
  simp)
theorem set3 (h : Fg T m W xb pb nm cs us fs ks wr) (v : Value) : Fg T m W xb pb nm cs v fs ks (wr.setCell ⟨xb, 3, none⟩ v) := h.setx 3 v (by
  simp only [World.setCell, Array.getElem?_modify, h.x]
  simp)
theorem set4 (h : Fg T m W xb pb nm cs us fs ks wr) (v : Value) : Fg T m W xb pb nm cs us v ks (wr.setCell ⟨xb, 4, none⟩ v) := h.setx 4 v (by
  simp only [World.setCell, Array.getElem?_modify, h.x]
  simp)
theorem set5 (h : Fg T m W xb pb nm cs us fs ks wr) (v : Value) : Fg T m W xb pb nm cs us fs v (wr.setCell ⟨xb, 5, none⟩ v) := h.setx 5 v (by
  simp only [World.setCell, Array.getElem?_modify, h.x]
  simp)
end Fg
theorem infoCl : (Tryz.prog.info? 62).map (fun i => (i.zero, i.size, i.bytes)) = some (some (.agg #[.string ⟨#[]⟩, .int .i64 0, .bool false]), 3, 32) := by kernel_rfl
theorem infoIs : (Tryz.prog.info? 22).map (fun i => (i.zero, i.size, i.bytes)) = some (some (.slice none 0 0), 1, 24) := by kernel_rfl
theorem infoFk : (Tryz.prog.info? 59).map (fun i => (i.zero, i.size, i.bytes)) = some (some (.agg #[.slice none 0 0, .string ⟨#[]⟩]), 2, 40) := by kernel_rfl
theorem infoTb : (Tryz.prog.info? 55).map (fun i => (i.zero, i.size, i.bytes)) = some (some (.agg #[.string ⟨#[]⟩, .slice none 0 0, .slice none 0 0, .slice none 0 0, .slice none 0 0, .slice none 0 0]), 6, 136) := by kernel_rfl
end Go.Proofs.YtdmhmlnfoocnjaaGreatDoor
