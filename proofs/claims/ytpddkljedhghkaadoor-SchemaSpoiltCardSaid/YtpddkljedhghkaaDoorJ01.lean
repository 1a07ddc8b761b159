/-
  Regions that draw their order and whose callees may make memory: one walk in the order of the text serves every order; the tail, where each operation waits for all before it, is walked in the world that the head leaves. Conditions: every operation of the head leaves what lay below the heap's size at the region's head as it was. Expressions as trees: what a slice of expressions holds, how it is kept from world to world, and how an argument is opened. Slices of structs as arguments: what their cells hold.
-/
import Derived.Deep.Quiet
import Derived.StillTail
import Derived.Below
import Derived.Tactics
import Derived.Tactics2
import Derived.WalkKit
import Derived.Test.YtpddkljedhghkaaDoorChecked
import Derived.Deep.Slices
import Derived.Deep.Strs
import Derived.Deep.Fields
import Derived.ProofKit
import Derived.Laws.AppendOwn
import Derived.Lib.SmallJoins
import Derived.Lib.Hide
import Derived.LoopTactic
namespace Go.Proofs.YtpddkljedhghkaaDoor
open Go Go.RowKit

/-- A later world in which all that lay in w is as it was. -/
structure Ext (w : World) where
  val : World
  below : Below w.heap.size w val

instance (w : World) : Nonempty (Ext w) := ⟨⟨w, Below.refl _ w⟩⟩

namespace Ext
@[go_sem] theorem cell {w : World} (x : Ext w) {b : Nat} (o : Nat) (h : b < w.heap.size) : x.val.cell? ⟨b, o, none⟩ = w.cell? ⟨b, o, none⟩ := x.below.cell (p := ⟨b, o, none⟩) h
@[go_sem] theorem frozen {w : World} (x : Ext w) {b : Nat} (o : Nat) (h : b < w.heap.size) : x.val.frozen? ⟨b, o, none⟩ = w.frozen? ⟨b, o, none⟩ := x.below.frozen (p := ⟨b, o, none⟩) h
theorem size {w : World} (x : Ext w) : w.heap.size ≤ x.val.heap.size := x.below.size
theorem block {w : World} (x : Ext w) {b : Nat} (h : b < w.heap.size) : x.val.heap[b]? = w.heap[b]? := x.below.block b h
theorem on {B : Nat} {w0 w : World} (x : Ext w) (h : Below B w0 w) (hB : B ≤ w.heap.size) : Below B w0 x.val := h.trans (x.below.mono hB)
/-- A block of the old world lies below the new one's size, in the spellings that a walk shows. -/
theorem lts {w : World} (x : Ext w) {b : Nat} (h : b < w.heap.size) : b < x.val.heap.size ∧ b < x.val.heap.size + 1 ∧ b < x.val.heap.size + 1 + 1 ∧ b < x.val.heap.size + 1 + 1 + 1 ∧ b < x.val.heap.size + 1 + 1 + 1 + 1 := by
  have := x.size
  refine ⟨?_, ?_, ?_, ?_, ?_⟩ <;> omega
end Ext

/-- w' is a later world than w. -/
def Cls (w w' : World) : Prop := ∃ x : Ext w, w' = x.val
namespace Cls
theorem of {w w' : World} (h : Below w.heap.size w w') : Cls w w' := ⟨⟨w', h⟩, rfl⟩
theorem below {w w' : World} (h : Cls w w') : Below w.heap.size w w' := by obtain ⟨x, rfl⟩ := h; exact x.below
theorem start (w : World) : Cls w { w with drawn := w.drawn + 1 } := of (Below.refl _ w).drew
theorem step {w : World} (x : Ext w) {w' : World} (h : Cls x.val w') : Cls w w' := of (x.below.trans (h.below.mono x.size))
/-- A callee's contract, met in a world of the class. -/
theorem call {P : Program} {f : FuncId} {args : Array Value} {w : World} {x : Ext w} {v : Value}
    (h : Calls P f args x.val fun e w' => e = .returned v ∧ Cls x.val w') : Calls P f args x.val fun e w'' => e = .returned v ∧ ∃ y : Ext w, w'' = y.val :=
  h.mono fun _ _ ⟨he, hm⟩ => ⟨he, step x hm⟩
end Cls

section
variable {P : Program} {ops : Array Oper} {md : Region.Mode} {C : World → Prop}

/-- The same without a tail. -/
theorem wp_region_ext {id : Nat} {Q : Exit → Act → World → Prop} {a : Act} {w : World} {l : List Oper} (hm : P.follows .mixedOrders = true) (hB : Region.lexB .any l.toArray = true)
    (h : wpQuiet P l.toArray (fun w' => ∃ x : Ext w, w' = x.val) (fun a' => ∀ w', (∃ x : Ext w, w' = x.val) → Q .normal a' w') l a) : (Code.region id l.toArray true).wp P Q a w :=
  wp_region_quiet (C := fun w' => ∃ x : Ext w, w' = x.val) hm hB (Cls.start w) (by simpa using h)

/-- The same from a world that is itself a later world of w0: nothing more is asked. -/
theorem wp_region_on {id : Nat} {Q : Exit → Act → World → Prop} {a : Act} {w0 : World} {x : Ext w0} {l : List Oper} (hm : P.follows .mixedOrders = true) (hB : Region.lexB .any l.toArray = true)
    (h : wpQuiet P l.toArray (fun w' => ∃ x : Ext w0, w' = x.val) (fun a' => ∀ w', (∃ x : Ext w0, w' = x.val) → Q .normal a' w') l a) : (Code.region id l.toArray true).wp P Q a x.val :=
  wp_region_quiet (C := fun w' => ∃ x : Ext w0, w' = x.val) hm hB (Cls.step x (Cls.start x.val)) (by simpa using h)

/-- A function's end whose result lies in memory: 'simp' reads it. -/
theorem ret_ex {fn : Func} {R : Ending → World → Prop} {a : Act} {w : World} (hd : a.defers = []) (h : ∃ v, (results fn a.tmps).run P w = .ok v w ∧ R (.returned v) w) : bodyPost P fn R .ret a w :=
  ⟨hd, h.choose, h.choose_spec.1, h.choose_spec.2⟩
end

theorem ret_int {k : IntKind} {a b : Int} (h : a = b) : Ending.returned (.int k a) = .returned (.int k b) := by rw [h]
theorem ret_bool {a b : Bool} (h : a = b) : Ending.returned (.bool a) = .returned (.bool b) := by rw [h]
end Go.Proofs.YtpddkljedhghkaaDoor
set_option linter.unusedVariables false
namespace Go.Proofs.YtpddkljedhghkaaDoor
open Go Go.RowKit Go.ChangeShapes Go.WideShapes Go.Joins Go.Deep

/-- An expression: its fields, and its Kids. -/
inductive Ex where
  | mk (op ty num : Int) (text : ByteArray) (col : Int) (kids : List Ex)
namespace Ex
def op : Ex → Int | .mk o _ _ _ _ _ => o
def ty : Ex → Int | .mk _ t _ _ _ _ => t
def num : Ex → Int | .mk _ _ n _ _ _ => n
def text : Ex → ByteArray | .mk _ _ _ s _ _ => s
def col : Ex → Int | .mk _ _ _ _ c _ => c
def kids : Ex → List Ex | .mk _ _ _ _ _ l => l
def z : Ex := .mk 0 0 0 ⟨#[]⟩ 0 []
instance : Inhabited Ex := ⟨z⟩
theorem ind {M : Ex → Prop} (h : ∀ e, (∀ k ∈ e.kids, M k) → M e) (e : Ex) : M e := by
  have key : ∀ (n : Nat) (e : Ex), SizeOf.sizeOf e = n → M e := by
    intro n
    induction n using Nat.strongRecOn with
    | _ n ih =>
      intro e he
      refine h e fun k hk => ih (SizeOf.sizeOf k) ?_ k rfl
      cases e with
      | mk o t n' s c l =>
        have := List.sizeOf_lt_of_mem (show k ∈ l from hk)
        simp only [Ex.mk.sizeOf_spec] at he
        omega
  exact key _ e rfl
/-- The numbers are ones that Go's types hold. -/
def fine (e : Ex) : Prop := (Lit.int .i64 e.op).wf = true ∧ (Lit.int .i64 e.ty).wf = true ∧ (Lit.int .i64 e.num).wf = true ∧ e.text.size ≤ maxLen ∧ (Lit.int .i64 e.col).wf = true
end Ex

/-- The i-th cells behind a are those of e, its Kids behind a'. -/
def ExAt (w : World) (ok : Nat → Prop) (a : Option Addr) (i : Nat) (e : Ex) (a' : Option Addr) (len' cap' : Nat) : Prop :=
  ∃ b off, a = some ⟨b, off, none⟩ ∧ b < w.heap.size ∧ ok b ∧ w.cell? ⟨b, off + i * 6, none⟩ = some (.int .i64 e.op) ∧ w.cell? ⟨b, off + i * 6 + 1, none⟩ = some (.int .i64 e.ty) ∧
    w.cell? ⟨b, off + i * 6 + 2, none⟩ = some (.int .i64 e.num) ∧ w.cell? ⟨b, off + i * 6 + 3, none⟩ = some (.string e.text) ∧ w.cell? ⟨b, off + i * 6 + 4, none⟩ = some (.int .i64 e.col) ∧
    w.cell? ⟨b, off + i * 6 + 5, none⟩ = some (.slice a' len' cap')
/-- The slice holds these expressions; each block of theirs is one that ok lets in. -/
inductive Kids (w : World) (ok : Nat → Prop) : Option Addr → Nat → Nat → List Ex → Prop
  | mk (a : Option Addr) (len cap : Nat) (l : List Ex) (ad : Nat → Option Addr) (lens caps : Nat → Nat) (hl : l.length = len) (hc : len ≤ cap) (hm : cap ≤ maxLen) (hn : a = none → len = 0 ∧ cap = 0)
      (hcell : ∀ i, i < len → ExAt w ok a i (l.getD i Ex.z) (ad i) (lens i) (caps i)) (hf : ∀ i, i < len → (l.getD i Ex.z).fine) (h : ∀ i, i < len → Kids w ok (ad i) (lens i) (caps i) (l.getD i Ex.z).kids) : Kids w ok a len cap l

theorem ExAt.carry {w w' : World} {ok ok' : Nat → Prop} {a : Option Addr} {i : Nat} {e : Ex} {a' : Option Addr} {len' cap' : Nat} (hs : w.heap.size ≤ w'.heap.size) (hb : ∀ b, b < w.heap.size → ok b → ok' b ∧ w'.heap[b]? = w.heap[b]?) (h : ExAt w ok a i e a' len' cap') : ExAt w' ok' a i e a' len' cap' := by
  obtain ⟨b, off, ha, hlt, hok, h0, h1, h2, h3, h4, h5⟩ := h
  obtain ⟨hok', he⟩ := hb b hlt hok
  have key : ∀ o, w'.cell? ⟨b, o, none⟩ = w.cell? ⟨b, o, none⟩ := fun o => World.cell?_of_block (w := w) he
  exact ⟨b, off, ha, Nat.lt_of_lt_of_le hlt hs, hok', by rw [key]; exact h0, by rw [key]; exact h1, by rw [key]; exact h2, by rw [key]; exact h3, by rw [key]; exact h4, by rw [key]; exact h5⟩
theorem Kids.carry {w w' : World} {ok ok' : Nat → Prop} {a : Option Addr} {len cap : Nat} {l : List Ex} (hs : w.heap.size ≤ w'.heap.size) (hb : ∀ b, b < w.heap.size → ok b → ok' b ∧ w'.heap[b]? = w.heap[b]?) (h : Kids w ok a len cap l) : Kids w' ok' a len cap l := by
  induction h with
  | mk a len cap l ad lens caps hl hc hm hn hcell hf h ih => exact .mk a len cap l ad lens caps hl hc hm hn (fun i hi => (hcell i hi).carry hs hb) hf ih
theorem Kids.later {w w' : World} {ok : Nat → Prop} {a : Option Addr} {len cap : Nat} {l : List Ex} (h : Kids w ok a len cap l) (hb : Below w.heap.size w w') : Kids w' ok a len cap l := h.carry hb.size fun b hlt hok => ⟨hok, hb.block b hlt⟩
theorem Kids.any {w : World} {ok : Nat → Prop} {a : Option Addr} {len cap : Nat} {l : List Ex} (h : Kids w ok a len cap l) : Kids w (fun _ => True) a len cap l := h.carry (Nat.le_refl _) fun _ _ _ => ⟨trivial, rfl⟩
theorem Kids.len_eq {w : World} {ok : Nat → Prop} {a : Option Addr} {len cap : Nat} {l : List Ex} (h : Kids w ok a len cap l) : l.length = len := by cases h; assumption
theorem Kids.le {w : World} {ok : Nat → Prop} {a : Option Addr} {len cap : Nat} {l : List Ex} (h : Kids w ok a len cap l) : len ≤ cap := by cases h; assumption
theorem Kids.max {w : World} {ok : Nat → Prop} {a : Option Addr} {len cap : Nat} {l : List Ex} (h : Kids w ok a len cap l) : cap ≤ maxLen := by cases h; assumption
theorem Kids.at_ {w : World} {ok : Nat → Prop} {a : Option Addr} {len cap : Nat} {l : List Ex} (h : Kids w ok a len cap l) {i : Nat} (hi : i < len) : ∃ a' len' cap', ExAt w ok a i (l.getD i Ex.z) a' len' cap' ∧ (l.getD i Ex.z).fine ∧ Kids w ok a' len' cap' (l.getD i Ex.z).kids := by
  cases h with
  | mk _ _ _ _ ad lens caps hl hc hm hn hcell hf h => exact ⟨_, _, _, hcell i hi, hf i hi, h i hi⟩
theorem Kids.none {w : World} {ok : Nat → Prop} : Kids w ok Option.none 0 0 [] := .mk Option.none 0 0 [] (fun _ => Option.none) (fun _ => 0) (fun _ => 0) rfl (Nat.le_refl _) (Nat.zero_le _) (fun _ => ⟨rfl, rfl⟩) (fun i h => absurd h (by omega)) (fun i h => absurd h (by omega)) (fun i h => absurd h (by omega))

theorem getD_mem {l : List Ex} {i : Nat} (h : i < l.length) : l.getD i Ex.z ∈ l := by
  simp [List.getD, h]
theorem dropE {l : List Ex} {j : Nat} (h : j < l.length) : l.drop j = l.getD j Ex.z :: l.drop (j + 1) := by
  rw [List.drop_eq_getElem_cons h]; simp [List.getD, h]

/-! ### An argument opened -/
theorem cells_below {w : World} {p : Addr} {v : Value} (h : w.cell? p = some v) : p.block < w.heap.size := by
  rcases Nat.lt_or_ge p.block w.heap.size with h' | h'
  · exact h'
  · simp [World.cell?, Array.getElem?_eq_none h'] at h
section
variable {H : Type} {enc : TypeId × Value → H} {w : World} {base : Nat} {spare : Nat → Bool} {held : Bool}
end
end Go.Proofs.YtpddkljedhghkaaDoor
set_option linter.unusedVariables false
namespace Go.Proofs.YtpddkljedhghkaaDoor
open Go Go.RowKit Go.ChangeShapes Go.WideShapes Go.Joins Go.Deep
/-- A slice's three parts. -/
structure Sl where
  a : Option Addr
  len : Nat
  cap : Nat
def Sl.v (s : Sl) : Value := .slice s.a s.len s.cap
def Sl.z : Sl := ⟨none, 0, 0⟩
/-- The slice's elements are k cells each, and these are they. -/
def SlAt (w : World) (k : Nat) (s : Sl) (cell : Nat → List Value) : Prop :=
  s.len ≤ s.cap ∧ s.cap ≤ maxLen ∧ (s.a = none → s.len = 0 ∧ s.cap = 0) ∧ ∀ i, i < s.len → ∃ b off, s.a = some ⟨b, off, none⟩ ∧ b < w.heap.size ∧ ∀ j, j < k → w.cell? ⟨b, off + i * k + j, none⟩ = (cell i)[j]?
theorem SlAt.later {w w' : World} {k : Nat} {s : Sl} {cell : Nat → List Value} (h : SlAt w k s cell) (hb : Below w.heap.size w w') : SlAt w' k s cell := by
  refine ⟨h.1, h.2.1, h.2.2.1, fun i hi => ?_⟩
  obtain ⟨b, off, ha, hlt, hc⟩ := h.2.2.2 i hi
  exact ⟨b, off, ha, Nat.lt_of_lt_of_le hlt hb.size, fun j hj => by rw [hb.cell (p := ⟨b, _, none⟩) hlt]; exact hc j hj⟩
section
variable {H : Type} {enc : TypeId × Value → H} {w : World} {base : Nat} {spare : Nat → Bool} {held : Bool}
end
end Go.Proofs.YtpddkljedhghkaaDoor
