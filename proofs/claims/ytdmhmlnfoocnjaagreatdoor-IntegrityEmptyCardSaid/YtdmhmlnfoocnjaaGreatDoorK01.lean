/-
  Regions that draw their order and whose callees may make memory.
-/
import Derived.Deep.Quiet
import Derived.StillTail
import Derived.Below
import Derived.Tactics
import Derived.Tactics2
import Derived.WalkKit
import Derived.Test.YtdmhmlnfoocnjaaGreatDoorChecked
import Derived.Deep.Slices
import Derived.Deep.Strs
import Derived.Deep.Fields
import Derived.ProofKit
import Derived.Laws.AppendOwn
import Derived.Lib.SmallJoins
import Derived.Lib.Hide
import Derived.LoopTactic
namespace Go.Proofs.YtdmhmlnfoocnjaaGreatDoor
open Go Go.RowKit

structure Ext (w : World) where
  val : World
  below : Below w.heap.size w val

instance (w : World) : Nonempty (Ext w) := ⟨⟨w, Below.refl _ w⟩⟩

namespace Ext
@[go_sem] theorem cell {w : World} (x : Ext w) {b : Nat} (o : Nat) (h : b < w.heap.size) : x.val.cell? ⟨b, o, none⟩ = w.cell? ⟨b, o, none⟩ := x.below.cell (p := ⟨b, o, none⟩) h
@[go_sem] theorem frozen {w : World} (x : Ext w) {b : Nat} (o : Nat) (h : b < w.heap.size) : x.val.frozen? ⟨b, o, none⟩ = w.frozen? ⟨b, o, none⟩ := x.below.frozen (p := ⟨b, o, none⟩) h
theorem size {w : World} (x : Ext w) : w.heap.size ≤ x.val.heap.size := x.below.size
theorem block {w : World} (x : Ext w) {b : Nat} (h : b < w.heap.size) : x.val.heap[b]? = w.heap[b]? := x.below.block b h
theorem on {B : Nat} {w0 w : World} (x : Ext w) (h : Below B w0 w) (hB : B ≤ w.heap.size) : Below B w0 x.val := h.trans (x.below.mono hB)
theorem lts {w : World} (x : Ext w) {b : Nat} (h : b < w.heap.size) : b < x.val.heap.size ∧ b < x.val.heap.size + 1 ∧ b < x.val.heap.size + 1 + 1 ∧ b < x.val.heap.size + 1 + 1 + 1 ∧ b < x.val.heap.size + 1 + 1 + 1 + 1 := by
  have := x.size
  refine ⟨?_, ?_, ?_, ?_, ?_⟩ <;> omega
end Ext

def Cls (w w' : World) : Prop := ∃ x : Ext w, w' = x.val
namespace Cls
theorem of {w w' : World} (h : Below w.heap.size w w') : Cls w w' := ⟨⟨w', h⟩, rfl⟩
theorem below {w w' : World} (h : Cls w w') : Below w.heap.size w w' := by obtain ⟨x, rfl⟩ := h; exact x.below
theorem start (w : World) : Cls w { w with drawn := w.drawn + 1 } := of (Below.refl _ w).drew
theorem step {w : World} (x : Ext w) {w' : World} (h : Cls x.val w') : Cls w w' := of (x.below.trans (h.below.mono x.size))
theorem call {P : Program} {f : FuncId} {args : Array Value} {w : World} {x : Ext w} {v : Value}
    (h : Calls P f args x.val fun e w' => e = .returned v ∧ Cls x.val w') : Calls P f args x.val fun e w'' => e = .returned v ∧ ∃ y : Ext w, w'' = y.val :=
  h.mono fun _ _ ⟨he, hm⟩ => ⟨he, step x hm⟩
end Cls

section
variable {P : Program} {ops : Array Oper} {md : Region.Mode} {C : World → Prop}

def wpHead (P : Program) (md : Region.Mode) (ops : Array Oper) (C : World → Prop) (n : Nat) (L : Array Bool → Act → Prop) : Nat → Array Bool → Act → Prop
  | 0, done, a => L done a
  | f + 1, done, a => Region.ready md ops done ≠ [] ∧ ∀ i ∈ Region.ready md ops done, i < n ∧ qOp P ops C i (wpHead P md ops C n L f (done.setIfInBounds i true)) a

theorem wpAny_of_wpHead {n g : Nat} {L : Array Bool → Act → Prop} {Q : Exit → Act → World → Prop} (hL : ∀ done a w, C w → L done a → wpAny P md ops Q g done a w) :
    ∀ (f : Nat) (done : Array Bool) (a : Act) (w : World), C w → wpHead P md ops C n L f done a → wpAny P md ops Q (f + g) done a w
  | 0, done, a, w, hw, h => by rw [Nat.zero_add]; exact hL _ _ _ hw h
  | f + 1, done, a, w, hw, h => by
    rw [show f + 1 + g = (f + g) + 1 by omega]
    exact ⟨fun h0 => absurd h0 h.1, fun i hi => wpOp_of_qOp hw (fun a' w' hw' h' => wpAny_of_wpHead hL f _ a' w' hw' h') (h.2 i hi).2⟩

theorem wpHead_first {n i : Nat} {oi : Oper} {v : Value} {L : Array Bool → Act → Prop} (hi : ops[i]? = some oi) (hsel : ∀ (j : Nat) (o : Oper) cs b, ops[j]? = some o → o.op ≠ .select cs b)
    (hs : Region.sinkB md ops n = true) (hc : Region.chainB md ops n = true) (hn : n < ops.size) (hin : i < n) (hdone : ∀ done a, L done a → ∀ j ∈ Region.ready md ops done, n ≤ j) :
    ∀ (f : Nat) (done : Array Bool) (a : Act), HeadInv md ops n done →
      (∀ j oj, ops[j]? = some oj → j ≠ i → done.getD j true = false → (∀ e ∈ oj.after, Region.binds md e = true → e.on ≠ i) → oi.apart ops oj = true) →
      i ∈ Region.ready md ops done → YieldsIn P ops C oi v a → wpHead P md ops C n L f (done.setIfInBounds i true) (a.put oi.dst v) → wpHead P md ops C n L (f + 1) done a := by
  intro f
  induction f with
  | zero =>
    intro done a inv _ hr hy H
    have hun := (mem_ready.1 hr).1
    refine ⟨fun h => (by rw [h] at hr; cases hr), fun j hj => ?_⟩
    have hjn : j < n := Nat.lt_of_not_le fun h => tail_waits hs hc hn inv _ i rfl hin hun j h hj
    refine ⟨hjn, ?_⟩
    by_cases hji : j = i
    · subst hji; exact hy.qOp hi H
    · have := hdone _ _ H j (ready_mono hj hji)
      omega
  | succ f ih =>
    intro done a inv hfree hr hy H
    have hun := (mem_ready.1 hr).1
    refine ⟨fun h => (by rw [h] at hr; cases hr), fun j hj => ?_⟩
    have hjn : j < n := Nat.lt_of_not_le fun h => tail_waits hs hc hn inv _ i rfl hin hun j h hj
    refine ⟨hjn, ?_⟩
    by_cases hji : j = i
    · subst hji; exact hy.qOp hi H
    · obtain ⟨hjun, oj, hoj, hall⟩ := mem_ready.1 hj
      have hnot : ∀ e ∈ oj.after, Region.binds md e = true → e.on ≠ i := fun e he hb heq => by
        have h1 := hall e he hb
        rw [heq, getD_both hun] at h1
        cases h1
      have h2 := qOp_put hoj (hfree j oj hoj hji hjun hnot) (fun cs b => hsel i oi cs b hi) (fun cs b => hsel j oj cs b hoj) hy (H.2 j (ready_mono hj hji)).2
      refine qOp_mono (fun a' h3 => ih (done.setIfInBounds j true) a' (inv.set hj hjn) (fun k ok hk hki hun' hno => ?_) (ready_mono hr (Ne.symm hji)) h3.1 ?_) h2
      · refine hfree k ok hk hki ?_ hno
        by_cases hjk : j = k
        · subst hjk; exact hjun
        · rw [getD_set_ne true hjk] at hun'; exact hun'
      · rw [Array.setIfInBounds_comm _ _ hji]
        exact h3.2

theorem wpHead_lex {n g : Nat} {Lq : Act → Prop} (hsel : Region.noSelect ops = true) (hs : Region.sinkB md ops n = true) (hc : Region.chainB md ops n = true) (hn : n < ops.size) :
    ∀ (l : List Oper) (k : Nat) (done : Array Bool) (a : Act), (∀ j, j < l.length → l[j]? = ops[k + j]?) → k + l.length = n → HeadInv md ops n done →
    Region.lexHead md ops g l.length k done = true → wpQuiet P ops C Lq l a →
    wpHead P md ops C n (fun done' a' => Region.seqB md ops g n done' = true ∧ Lq a') l.length done a
  | [], k, done, a, _, hk, _, hB, h => by
    obtain rfl : k = n := by simpa using hk
    exact ⟨by simpa [Region.lexHead] using hB, h⟩
  | o :: l, k, done, a, hl, hk, inv, hB, h => by
    have h0 : ops[k]? = some o := by simpa using (hl 0 (by simp)).symm
    simp only [List.length_cons, Region.lexHead, Bool.and_eq_true] at hB
    obtain ⟨⟨hr, hf⟩, hB'⟩ := hB
    have hkn : k < n := by simp only [List.length_cons] at hk; omega
    have hr' : k ∈ Region.ready md ops done := by simpa using hr
    have hst : qOp P ops C k (wpQuiet P ops C Lq l) a := by unfold qOp; simp only [h0]; exact h
    obtain ⟨v, hy, hK⟩ := yieldsIn_of_qOp h0 hst
    exact wpHead_first h0 (Region.noSelect_spec hsel) hs hc hn hkn (fun done' a' hL => seqB_ready hL.1) l.length done a inv (Region.free_spec h0 hf) hr' hy
      (wpHead_lex hsel hs hc hn l (k + 1) _ _ (fun j hj => by have := hl (j + 1) (by simp; omega); simpa [Nat.add_assoc, Nat.add_comm 1 j] using this) (by simp only [List.length_cons] at hk; omega) (inv.set hr' hkn) hB' hK)

theorem wp_region_tail {id : Nat} {Q : Exit → Act → World → Prop} {a : Act} {w : World} {l : List Oper} (n : Nat) (hm : P.follows .mixedOrders = true) (hB : Region.lexTailB .any l.toArray n = true)
    (hC : C { w with drawn := w.drawn + 1 }) (h : wpQuiet P l.toArray C (fun a' => ∀ w', C w' → wpList P l.toArray Q (l.drop n) a' w') (l.take n) a) : (Code.region id l.toArray true).wp P Q a w := by
  simp only [Region.lexTailB, Bool.and_eq_true, decide_eq_true_eq] at hB
  obtain ⟨⟨⟨⟨hsel, hn⟩, hs⟩, hc⟩, hlex⟩ := hB
  have hn' : n < l.length := by simpa using hn
  have htl : (l.take n).length = n := by simp; omega
  have hdl : (l.drop n).length = l.toArray.size - n := by simp
  have inv0 : HeadInv .any l.toArray n (Array.replicate l.toArray.size false) :=
    ⟨by simp, fun j oj _ hl => (by rw [getD_replicate_false] at hl; cases hl), fun t _ ht => getD_in (by simpa using ht) (getD_replicate_false _ _)⟩
  have H := wpHead_lex (md := .any) (g := l.toArray.size - n) hsel hs hc hn (l.take n) 0 _ a (fun j hj => by
    have hj' : j < n := by rw [htl] at hj; exact hj
    simp [hj']) (by simpa using htl) inv0 (by rw [htl]; exact hlex) h
  refine wp_region_any hm ?_
  have := wpAny_of_wpHead (Q := Q) (g := l.toArray.size - n) (fun done a' w' hw' hL => by
    have := wpAny_of_seq (md := .any) (Q' := Q) (l.drop n) n done a' w' (fun j => by simp [List.getElem?_drop]) (by rw [hdl]; exact hL.1) (hL.2 w' hw')
    rwa [hdl] at this) _ _ _ _ hC H
  rw [htl, show n + (l.toArray.size - n) = l.toArray.size by omega] at this
  exact this

theorem wp_region_ext {id : Nat} {Q : Exit → Act → World → Prop} {a : Act} {w : World} {l : List Oper} (hm : P.follows .mixedOrders = true) (hB : Region.lexB .any l.toArray = true)
    (h : wpQuiet P l.toArray (fun w' => ∃ x : Ext w, w' = x.val) (fun a' => ∀ w', (∃ x : Ext w, w' = x.val) → Q .normal a' w') l a) : (Code.region id l.toArray true).wp P Q a w :=
  wp_region_quiet (C := fun w' => ∃ x : Ext w, w' = x.val) hm hB (Cls.start w) (by simpa using h)

theorem wp_region_ext_tail {id : Nat} {Q : Exit → Act → World → Prop} {a : Act} {w : World} {l : List Oper} (n : Nat) (hm : P.follows .mixedOrders = true) (hB : Region.lexTailB .any l.toArray n = true)
    (h : wpQuiet P l.toArray (fun w' => ∃ x : Ext w, w' = x.val) (fun a' => ∀ w', (∃ x : Ext w, w' = x.val) → wpList P l.toArray Q (l.drop n) a' w') (l.take n) a) : (Code.region id l.toArray true).wp P Q a w :=
  wp_region_tail (C := fun w' => ∃ x : Ext w, w' = x.val) n hm hB (Cls.start w) h

theorem wp_region_on {id : Nat} {Q : Exit → Act → World → Prop} {a : Act} {w0 : World} {x : Ext w0} {l : List Oper} (hm : P.follows .mixedOrders = true) (hB : Region.lexB .any l.toArray = true)
    (h : wpQuiet P l.toArray (fun w' => ∃ x : Ext w0, w' = x.val) (fun a' => ∀ w', (∃ x : Ext w0, w' = x.val) → Q .normal a' w') l a) : (Code.region id l.toArray true).wp P Q a x.val :=
  wp_region_quiet (C := fun w' => ∃ x : Ext w0, w' = x.val) hm hB (Cls.step x (Cls.start x.val)) (by simpa using h)

theorem ret_ex {fn : Func} {R : Ending → World → Prop} {a : Act} {w : World} (hd : a.defers = []) (h : ∃ v, (results fn a.tmps).run P w = .ok v w ∧ R (.returned v) w) : bodyPost P fn R .ret a w :=
  ⟨hd, h.choose, h.choose_spec.1, h.choose_spec.2⟩
end

theorem ret_int {k : IntKind} {a b : Int} (h : a = b) : Ending.returned (.int k a) = .returned (.int k b) := by rw [h]
theorem ret_bool {a b : Bool} (h : a = b) : Ending.returned (.bool a) = .returned (.bool b) := by rw [h]
end Go.Proofs.YtdmhmlnfoocnjaaGreatDoor
set_option linter.unusedVariables false
namespace Go.Proofs.YtdmhmlnfoocnjaaGreatDoor
open Go Go.RowKit Go.ChangeShapes Go.WideShapes Go.Joins Go.Deep

inductive Ex where
  | mk (op ty num : Int) (text : ByteArray) (col : Int) (kids : List Ex)
namespace Ex
def op : Ex → Int | .mk o _ _ _ _ _ => o
def ty : Ex → Int | .mk _ t _ _ _ _ => t
def num : Ex → Int | .mk _ _ n _ _ _ => n
def text : Ex → ByteArray | .mk _ _ _ s _ _ => s
def col : Ex → Int | .mk _ _ _ _ c _ => c
def kids : Ex → List Ex | .mk _ _ _ _ _ l => l
def z : Ex := .mk 0 0 0 ⟨#[]⟩ 0 []
instance : Inhabited Ex := ⟨z⟩
theorem ind {M : Ex → Prop} (h : ∀ e, (∀ k ∈ e.kids, M k) → M e) (e : Ex) : M e := by
  have key : ∀ (n : Nat) (e : Ex), SizeOf.sizeOf e = n → M e := by
    intro n
    induction n using Nat.strongRecOn with
    | _ n ih =>
      intro e he
      refine h e fun k hk => ih (SizeOf.sizeOf k) ?_ k rfl
      cases e with
      | mk o t n' s c l =>
        have := List.sizeOf_lt_of_mem (show k ∈ l from hk)
        simp only [Ex.mk.sizeOf_spec] at he
        omega
  exact key _ e rfl
def fine (e : Ex) : Prop := (Lit.int .i64 e.op).wf = true ∧ (Lit.int .i64 e.ty).wf = true ∧ (Lit.int .i64 e.num).wf = true ∧ e.text.size ≤ maxLen ∧ (Lit.int .i64 e.col).wf = true
end Ex

def ExAt (w : World) (ok : Nat → Prop) (a : Option Addr) (i : Nat) (e : Ex) (a' : Option Addr) (len' cap' : Nat) : Prop :=
  ∃ b off, a = some ⟨b, off, none⟩ ∧ b < w.heap.size ∧ ok b ∧ w.cell? ⟨b, off + i * 6, none⟩ = some (.int .i64 e.op) ∧ w.cell? ⟨b, off + i * 6 + 1, none⟩ = some (.int .i64 e.ty) ∧
    w.cell? ⟨b, off + i * 6 + 2, none⟩ = some (.int .i64 e.num) ∧ w.cell? ⟨b, off + i * 6 + 3, none⟩ = some (.string e.text) ∧ w.cell? ⟨b, off + i * 6 + 4, none⟩ = some (.int .i64 e.col) ∧
    w.cell? ⟨b, off + i * 6 + 5, none⟩ = some (.slice a' len' cap')
inductive Kids (w : World) (ok : Nat → Prop) : Option Addr → Nat → Nat → List Ex → Prop
  | mk (a : Option Addr) (len cap : Nat) (l : List Ex) (ad : Nat → Option Addr) (lens caps : Nat → Nat) (hl : l.length = len) (hc : len ≤ cap) (hm : cap ≤ maxLen) (hn : a = none → len = 0 ∧ cap = 0)
      (hcell : ∀ i, i < len → ExAt w ok a i (l.getD i Ex.z) (ad i) (lens i) (caps i)) (hf : ∀ i, i < len → (l.getD i Ex.z).fine) (h : ∀ i, i < len → Kids w ok (ad i) (lens i) (caps i) (l.getD i Ex.z).kids) : Kids w ok a len cap l

theorem ExAt.carry {w w' : World} {ok ok' : Nat → Prop} {a : Option Addr} {i : Nat} {e : Ex} {a' : Option Addr} {len' cap' : Nat} (hs : w.heap.size ≤ w'.heap.size) (hb : ∀ b, b < w.heap.size → ok b → ok' b ∧ w'.heap[b]? = w.heap[b]?) (h : ExAt w ok a i e a' len' cap') : ExAt w' ok' a i e a' len' cap' := by
  obtain ⟨b, off, ha, hlt, hok, h0, h1, h2, h3, h4, h5⟩ := h
  obtain ⟨hok', he⟩ := hb b hlt hok
  have key : ∀ o, w'.cell? ⟨b, o, none⟩ = w.cell? ⟨b, o, none⟩ := fun o => World.cell?_of_block (w := w) he
  exact ⟨b, off, ha, Nat.lt_of_lt_of_le hlt hs, hok', by rw [key]; exact h0, by rw [key]; exact h1, by rw [key]; exact h2, by rw [key]; exact h3, by rw [key]; exact h4, by rw [key]; exact h5⟩
theorem Kids.carry {w w' : World} {ok ok' : Nat → Prop} {a : Option Addr} {len cap : Nat} {l : List Ex} (hs : w.heap.size ≤ w'.heap.size) (hb : ∀ b, b < w.heap.size → ok b → ok' b ∧ w'.heap[b]? = w.heap[b]?) (h : Kids w ok a len cap l) : Kids w' ok' a len cap l := by
  induction h with
  | mk a len cap l ad lens caps hl hc hm hn hcell hf h ih => exact .mk a len cap l ad lens caps hl hc hm hn (fun i hi => (hcell i hi).carry hs hb) hf ih
theorem Kids.later {w w' : World} {ok : Nat → Prop} {a : Option Addr} {len cap : Nat} {l : List Ex} (h : Kids w ok a len cap l) (hb : Below w.heap.size w w') : Kids w' ok a len cap l := h.carry hb.size fun b hlt hok => ⟨hok, hb.block b hlt⟩
theorem Kids.any {w : World} {ok : Nat → Prop} {a : Option Addr} {len cap : Nat} {l : List Ex} (h : Kids w ok a len cap l) : Kids w (fun _ => True) a len cap l := h.carry (Nat.le_refl _) fun _ _ _ => ⟨trivial, rfl⟩
theorem Kids.len_eq {w : World} {ok : Nat → Prop} {a : Option Addr} {len cap : Nat} {l : List Ex} (h : Kids w ok a len cap l) : l.length = len := by cases h; assumption
theorem Kids.le {w : World} {ok : Nat → Prop} {a : Option Addr} {len cap : Nat} {l : List Ex} (h : Kids w ok a len cap l) : len ≤ cap := by cases h; assumption
theorem Kids.max {w : World} {ok : Nat → Prop} {a : Option Addr} {len cap : Nat} {l : List Ex} (h : Kids w ok a len cap l) : cap ≤ maxLen := by cases h; assumption
theorem Kids.at_ {w : World} {ok : Nat → Prop} {a : Option Addr} {len cap : Nat} {l : List Ex} (h : Kids w ok a len cap l) {i : Nat} (hi : i < len) : ∃ a' len' cap', ExAt w ok a i (l.getD i Ex.z) a' len' cap' ∧ (l.getD i Ex.z).fine ∧ Kids w ok a' len' cap' (l.getD i Ex.z).kids := by
  cases h with
  | mk _ _ _ _ ad lens caps hl hc hm hn hcell hf h => exact ⟨_, _, _, hcell i hi, hf i hi, h i hi⟩
theorem Kids.none {w : World} {ok : Nat → Prop} : Kids w ok Option.none 0 0 [] := .mk Option.none 0 0 [] (fun _ => Option.none) (fun _ => 0) (fun _ => 0) rfl (Nat.le_refl _) (Nat.zero_le _) (fun _ => ⟨rfl, rfl⟩) (fun i h => absurd h (by omega)) (fun i h => absurd h (by omega)) (fun i h => absurd h (by omega))

theorem getD_mem {l : List Ex} {i : Nat} (h : i < l.length) : l.getD i Ex.z ∈ l := by
  simp [List.getD, h]
theorem dropE {l : List Ex} {j : Nat} (h : j < l.length) : l.drop j = l.getD j Ex.z :: l.drop (j + 1) := by
  rw [List.drop_eq_getElem_cons h]; simp [List.getD, h]

/-! ### An argument opened -/
theorem cells_below {w : World} {p : Addr} {v : Value} (h : w.cell? p = some v) : p.block < w.heap.size := by
  rcases Nat.lt_or_ge p.block w.heap.size with h' | h'
  · exact h'
  · simp [World.cell?, Array.getElem?_eq_none h'] at h
section
variable {H : Type} {enc : TypeId × Value → H} {w : World} {base : Nat} {spare : Nat → Bool} {held : Bool}
end
end Go.Proofs.YtdmhmlnfoocnjaaGreatDoor
set_option linter.unusedVariables false
namespace Go.Proofs.YtdmhmlnfoocnjaaGreatDoor
open Go Go.RowKit Go.ChangeShapes Go.WideShapes Go.Joins Go.Deep
structure Sl where
  a : Option Addr
  len : Nat
  cap : Nat
def Sl.v (s : Sl) : Value := .slice s.a s.len s.cap
def Sl.z : Sl := ⟨none, 0, 0⟩
def SlAt (w : World) (k : Nat) (s : Sl) (cell : Nat → List Value) : Prop :=
  s.len ≤ s.cap ∧ s.cap ≤ maxLen ∧ (s.a = none → s.len = 0 ∧ s.cap = 0) ∧ ∀ i, i < s.len → ∃ b off, s.a = some ⟨b, off, none⟩ ∧ b < w.heap.size ∧ ∀ j, j < k → w.cell? ⟨b, off + i * k + j, none⟩ = (cell i)[j]?
theorem SlAt.later {w w' : World} {k : Nat} {s : Sl} {cell : Nat → List Value} (h : SlAt w k s cell) (hb : Below w.heap.size w w') : SlAt w' k s cell := by
  refine ⟨h.1, h.2.1, h.2.2.1, fun i hi => ?_⟩
  obtain ⟨b, off, ha, hlt, hc⟩ := h.2.2.2 i hi
  exact ⟨b, off, ha, Nat.lt_of_lt_of_le hlt hb.size, fun j hj => by rw [hb.cell (p := ⟨b, _, none⟩) hlt]; exact hc j hj⟩
section
variable {H : Type} {enc : TypeId × Value → H} {w : World} {base : Nat} {spare : Nat → Bool} {held : Bool}
end
end Go.Proofs.YtdmhmlnfoocnjaaGreatDoor
