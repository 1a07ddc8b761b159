/-
  Regions that draw their order and whose callees may make memory: one walk in the order of the text serves every order; the tail, where each operation waits for all before it, is walked in the world that the head leaves. Conditions: every operation of the head leaves what lay below the heap's size at the region's head as it was. Plain functions on the numbers and texts of values: truths, and what logic gives. Nothing of the program is imported. Truth and Bool of the program, Bool of the reference, for all arguments. What the functions of truth values give: Truth, Bool, And, Or, Not of the program and of the reference, for all arguments.
-/
import Derived.Deep.Quiet
import Derived.StillTail
import Derived.Below
import Derived.Tactics
import Derived.Tactics2
import Derived.WalkKit
import Derived.RowKit3
import Derived.Lib.Strings
import Derived.Test.YtpddkljedhghkaaDoorChecked
import Derived.BigQuiet
namespace Go.Proofs.YtpddkljedhghkaaDoor
open Go Go.RowKit

/-- A later world in which all that lay in w is as it was. -/
structure Ext (w : World) where
  val : World
  below : Below w.heap.size w val

instance (w : World) : Nonempty (Ext w) := ⟨⟨w, Below.refl _ w⟩⟩

namespace Ext
@[go_sem] theorem cell {w : World} (x : Ext w) {b : Nat} (o : Nat) (h : b < w.heap.size) : x.val.cell? ⟨b, o, none⟩ = w.cell? ⟨b, o, none⟩ := x.below.cell (p := ⟨b, o, none⟩) h
@[go_sem] theorem frozen {w : World} (x : Ext w) {b : Nat} (o : Nat) (h : b < w.heap.size) : x.val.frozen? ⟨b, o, none⟩ = w.frozen? ⟨b, o, none⟩ := x.below.frozen (p := ⟨b, o, none⟩) h
theorem size {w : World} (x : Ext w) : w.heap.size ≤ x.val.heap.size := x.below.size
theorem block {w : World} (x : Ext w) {b : Nat} (h : b < w.heap.size) : x.val.heap[b]? = w.heap[b]? := x.below.block b h
theorem on {B : Nat} {w0 w : World} (x : Ext w) (h : Below B w0 w) (hB : B ≤ w.heap.size) : Below B w0 x.val := h.trans (x.below.mono hB)
/-- A block of the old world lies below the new one's size, in the spellings that a walk shows. -/
theorem lts {w : World} (x : Ext w) {b : Nat} (h : b < w.heap.size) : b < x.val.heap.size ∧ b < x.val.heap.size + 1 ∧ b < x.val.heap.size + 1 + 1 ∧ b < x.val.heap.size + 1 + 1 + 1 ∧ b < x.val.heap.size + 1 + 1 + 1 + 1 := by
  have := x.size
  refine ⟨?_, ?_, ?_, ?_, ?_⟩ <;> omega
end Ext

/-- w' is a later world than w. -/
def Cls (w w' : World) : Prop := ∃ x : Ext w, w' = x.val
namespace Cls
theorem of {w w' : World} (h : Below w.heap.size w w') : Cls w w' := ⟨⟨w', h⟩, rfl⟩
theorem below {w w' : World} (h : Cls w w') : Below w.heap.size w w' := by obtain ⟨x, rfl⟩ := h; exact x.below
theorem start (w : World) : Cls w { w with drawn := w.drawn + 1 } := of (Below.refl _ w).drew
theorem step {w : World} (x : Ext w) {w' : World} (h : Cls x.val w') : Cls w w' := of (x.below.trans (h.below.mono x.size))
/-- A callee's contract, met in a world of the class. -/
theorem call {P : Program} {f : FuncId} {args : Array Value} {w : World} {x : Ext w} {v : Value}
    (h : Calls P f args x.val fun e w' => e = .returned v ∧ Cls x.val w') : Calls P f args x.val fun e w'' => e = .returned v ∧ ∃ y : Ext w, w'' = y.val :=
  h.mono fun _ _ ⟨he, hm⟩ => ⟨he, step x hm⟩
end Cls

section
variable {P : Program} {ops : Array Oper} {md : Region.Mode} {C : World → Prop}

/-- The head in whatever order is picked, in every world of the class; L: what is asked when f operations have come up. -/
def wpHead (P : Program) (md : Region.Mode) (ops : Array Oper) (C : World → Prop) (n : Nat) (L : Array Bool → Act → Prop) : Nat → Array Bool → Act → Prop
  | 0, done, a => L done a
  | f + 1, done, a => Region.ready md ops done ≠ [] ∧ ∀ i ∈ Region.ready md ops done, i < n ∧ qOp P ops C i (wpHead P md ops C n L f (done.setIfInBounds i true)) a

theorem wpAny_of_wpHead {n g : Nat} {L : Array Bool → Act → Prop} {Q : Exit → Act → World → Prop} (hL : ∀ done a w, C w → L done a → wpAny P md ops Q g done a w) :
    ∀ (f : Nat) (done : Array Bool) (a : Act) (w : World), C w → wpHead P md ops C n L f done a → wpAny P md ops Q (f + g) done a w
  | 0, done, a, w, hw, h => by rw [Nat.zero_add]; exact hL _ _ _ hw h
  | f + 1, done, a, w, hw, h => by
    rw [show f + 1 + g = (f + g) + 1 by omega]
    exact ⟨fun h0 => absurd h0 h.1, fun i hi => wpOp_of_qOp hw (fun a' w' hw' h' => wpAny_of_wpHead hL f _ a' w' hw' h') (h.2 i hi).2⟩

theorem wpHead_first {n i : Nat} {oi : Oper} {v : Value} {L : Array Bool → Act → Prop} (hi : ops[i]? = some oi) (hsel : ∀ (j : Nat) (o : Oper) cs b, ops[j]? = some o → o.op ≠ .select cs b)
    (hs : Region.sinkB md ops n = true) (hc : Region.chainB md ops n = true) (hn : n < ops.size) (hin : i < n) (hdone : ∀ done a, L done a → ∀ j ∈ Region.ready md ops done, n ≤ j) :
    ∀ (f : Nat) (done : Array Bool) (a : Act), HeadInv md ops n done →
      (∀ j oj, ops[j]? = some oj → j ≠ i → done.getD j true = false → (∀ e ∈ oj.after, Region.binds md e = true → e.on ≠ i) → oi.apart ops oj = true) →
      i ∈ Region.ready md ops done → YieldsIn P ops C oi v a → wpHead P md ops C n L f (done.setIfInBounds i true) (a.put oi.dst v) → wpHead P md ops C n L (f + 1) done a := by
  intro f
  induction f with
  | zero =>
    intro done a inv _ hr hy H
    have hun := (mem_ready.1 hr).1
    refine ⟨fun h => (by rw [h] at hr; cases hr), fun j hj => ?_⟩
    have hjn : j < n := Nat.lt_of_not_le fun h => tail_waits hs hc hn inv _ i rfl hin hun j h hj
    refine ⟨hjn, ?_⟩
    by_cases hji : j = i
    · subst hji; exact hy.qOp hi H
    · have := hdone _ _ H j (ready_mono hj hji)
      omega
  | succ f ih =>
    intro done a inv hfree hr hy H
    have hun := (mem_ready.1 hr).1
    refine ⟨fun h => (by rw [h] at hr; cases hr), fun j hj => ?_⟩
    have hjn : j < n := Nat.lt_of_not_le fun h => tail_waits hs hc hn inv _ i rfl hin hun j h hj
    refine ⟨hjn, ?_⟩
    by_cases hji : j = i
    · subst hji; exact hy.qOp hi H
    · obtain ⟨hjun, oj, hoj, hall⟩ := mem_ready.1 hj
      have hnot : ∀ e ∈ oj.after, Region.binds md e = true → e.on ≠ i := fun e he hb heq => by
        have h1 := hall e he hb
        rw [heq, getD_both hun] at h1
        cases h1
      have h2 := qOp_put hoj (hfree j oj hoj hji hjun hnot) (fun cs b => hsel i oi cs b hi) (fun cs b => hsel j oj cs b hoj) hy (H.2 j (ready_mono hj hji)).2
      refine qOp_mono (fun a' h3 => ih (done.setIfInBounds j true) a' (inv.set hj hjn) (fun k ok hk hki hun' hno => ?_) (ready_mono hr (Ne.symm hji)) h3.1 ?_) h2
      · refine hfree k ok hk hki ?_ hno
        by_cases hjk : j = k
        · subst hjk; exact hjun
        · rw [getD_set_ne true hjk] at hun'; exact hun'
      · rw [Array.setIfInBounds_comm _ _ hji]
        exact h3.2

theorem wpHead_lex {n g : Nat} {Lq : Act → Prop} (hsel : Region.noSelect ops = true) (hs : Region.sinkB md ops n = true) (hc : Region.chainB md ops n = true) (hn : n < ops.size) :
    ∀ (l : List Oper) (k : Nat) (done : Array Bool) (a : Act), (∀ j, j < l.length → l[j]? = ops[k + j]?) → k + l.length = n → HeadInv md ops n done →
    Region.lexHead md ops g l.length k done = true → wpQuiet P ops C Lq l a →
    wpHead P md ops C n (fun done' a' => Region.seqB md ops g n done' = true ∧ Lq a') l.length done a
  | [], k, done, a, _, hk, _, hB, h => by
    obtain rfl : k = n := by simpa using hk
    exact ⟨by simpa [Region.lexHead] using hB, h⟩
  | o :: l, k, done, a, hl, hk, inv, hB, h => by
    have h0 : ops[k]? = some o := by simpa using (hl 0 (by simp)).symm
    simp only [List.length_cons, Region.lexHead, Bool.and_eq_true] at hB
    obtain ⟨⟨hr, hf⟩, hB'⟩ := hB
    have hkn : k < n := by simp only [List.length_cons] at hk; omega
    have hr' : k ∈ Region.ready md ops done := by simpa using hr
    have hst : qOp P ops C k (wpQuiet P ops C Lq l) a := by unfold qOp; simp only [h0]; exact h
    obtain ⟨v, hy, hK⟩ := yieldsIn_of_qOp h0 hst
    exact wpHead_first h0 (Region.noSelect_spec hsel) hs hc hn hkn (fun done' a' hL => seqB_ready hL.1) l.length done a inv (Region.free_spec h0 hf) hr' hy
      (wpHead_lex hsel hs hc hn l (k + 1) _ _ (fun j hj => by have := hl (j + 1) (by simp; omega); simpa [Nat.add_assoc, Nat.add_comm 1 j] using this) (by simp only [List.length_cons] at hk; omega) (inv.set hr' hkn) hB' hK)

/-- A region whose first n operations are quiet in the class, in any order, and whose other operations come in one order. -/
theorem wp_region_tail {id : Nat} {Q : Exit → Act → World → Prop} {a : Act} {w : World} {l : List Oper} (n : Nat) (hm : P.follows .mixedOrders = true) (hB : Region.lexTailB .any l.toArray n = true)
    (hC : C { w with drawn := w.drawn + 1 }) (h : wpQuiet P l.toArray C (fun a' => ∀ w', C w' → wpList P l.toArray Q (l.drop n) a' w') (l.take n) a) : (Code.region id l.toArray true).wp P Q a w := by
  simp only [Region.lexTailB, Bool.and_eq_true, decide_eq_true_eq] at hB
  obtain ⟨⟨⟨⟨hsel, hn⟩, hs⟩, hc⟩, hlex⟩ := hB
  have hn' : n < l.length := by simpa using hn
  have htl : (l.take n).length = n := by simp; omega
  have hdl : (l.drop n).length = l.toArray.size - n := by simp
  have inv0 : HeadInv .any l.toArray n (Array.replicate l.toArray.size false) :=
    ⟨by simp, fun j oj _ hl => (by rw [getD_replicate_false] at hl; cases hl), fun t _ ht => getD_in (by simpa using ht) (getD_replicate_false _ _)⟩
  have H := wpHead_lex (md := .any) (g := l.toArray.size - n) hsel hs hc hn (l.take n) 0 _ a (fun j hj => by
    have hj' : j < n := by rw [htl] at hj; exact hj
    simp [hj']) (by simpa using htl) inv0 (by rw [htl]; exact hlex) h
  refine wp_region_any hm ?_
  have := wpAny_of_wpHead (Q := Q) (g := l.toArray.size - n) (fun done a' w' hw' hL => by
    have := wpAny_of_seq (md := .any) (Q' := Q) (l.drop n) n done a' w' (fun j => by simp [List.getElem?_drop]) (by rw [hdl]; exact hL.1) (hL.2 w' hw')
    rwa [hdl] at this) _ _ _ _ hC H
  rw [htl, show n + (l.toArray.size - n) = l.toArray.size by omega] at this
  exact this

/-- The same without a tail. -/
theorem wp_region_ext {id : Nat} {Q : Exit → Act → World → Prop} {a : Act} {w : World} {l : List Oper} (hm : P.follows .mixedOrders = true) (hB : Region.lexB .any l.toArray = true)
    (h : wpQuiet P l.toArray (fun w' => ∃ x : Ext w, w' = x.val) (fun a' => ∀ w', (∃ x : Ext w, w' = x.val) → Q .normal a' w') l a) : (Code.region id l.toArray true).wp P Q a w :=
  wp_region_quiet (C := fun w' => ∃ x : Ext w, w' = x.val) hm hB (Cls.start w) (by simpa using h)

theorem wp_region_ext_tail {id : Nat} {Q : Exit → Act → World → Prop} {a : Act} {w : World} {l : List Oper} (n : Nat) (hm : P.follows .mixedOrders = true) (hB : Region.lexTailB .any l.toArray n = true)
    (h : wpQuiet P l.toArray (fun w' => ∃ x : Ext w, w' = x.val) (fun a' => ∀ w', (∃ x : Ext w, w' = x.val) → wpList P l.toArray Q (l.drop n) a' w') (l.take n) a) : (Code.region id l.toArray true).wp P Q a w :=
  wp_region_tail (C := fun w' => ∃ x : Ext w, w' = x.val) n hm hB (Cls.start w) h

/-- The same from a world that is itself a later world of w0: nothing more is asked. -/
theorem wp_region_on {id : Nat} {Q : Exit → Act → World → Prop} {a : Act} {w0 : World} {x : Ext w0} {l : List Oper} (hm : P.follows .mixedOrders = true) (hB : Region.lexB .any l.toArray = true)
    (h : wpQuiet P l.toArray (fun w' => ∃ x : Ext w0, w' = x.val) (fun a' => ∀ w', (∃ x : Ext w0, w' = x.val) → Q .normal a' w') l a) : (Code.region id l.toArray true).wp P Q a x.val :=
  wp_region_quiet (C := fun w' => ∃ x : Ext w0, w' = x.val) hm hB (Cls.step x (Cls.start x.val)) (by simpa using h)

/-- A function's end whose result lies in memory: 'simp' reads it. -/
theorem ret_ex {fn : Func} {R : Ending → World → Prop} {a : Act} {w : World} (hd : a.defers = []) (h : ∃ v, (results fn a.tmps).run P w = .ok v w ∧ R (.returned v) w) : bodyPost P fn R .ret a w :=
  ⟨hd, h.choose, h.choose_spec.1, h.choose_spec.2⟩
end

theorem ret_int {k : IntKind} {a b : Int} (h : a = b) : Ending.returned (.int k a) = .returned (.int k b) := by rw [h]
theorem ret_bool {a b : Bool} (h : a = b) : Ending.returned (.bool a) = .returned (.bool b) := by rw [h]
end Go.Proofs.YtpddkljedhghkaaDoor
namespace Go.Proofs.YtpddkljedhghkaaDoor
open Go

/-- The truth of a value with this kind and number. -/
def truT (k n : Int) : Int := if k = 2 then if n = 1 then 1 else 0 else 2
/-- Kind and number of the truth value t, null for any other number. -/
def tvK (t : Int) : Int := if t = 0 then 2 else if t = 1 then 2 else 0
def tvN (t : Int) : Int := if t = 1 then 1 else 0
def andT (a b : Int) : Int := if a = 0 then 0 else if b = 0 then 0 else if a = 2 then 2 else if b = 2 then 2 else 1
def orT (a b : Int) : Int := if a = 1 then 1 else if b = 1 then 1 else if a = 2 then 2 else if b = 2 then 2 else 0
def notT (a : Int) : Int := if a = 0 then 1 else if a = 1 then 0 else 2

theorem truT_cases (k n : Int) : truT k n = 0 ∨ truT k n = 1 ∨ truT k n = 2 := by
  unfold truT; split <;> (try split) <;> simp
/-! ### The order of values -/
def cmpI (a b : Int) : Int := if a < b then -1 else if b < a then 1 else 0
def cmpS (s t : ByteArray) : Int := if Op.bytesLess s.toList t.toList = true then -1 else if s.toList = t.toList then 0 else 1
def cmpV (k n : Int) (s : ByteArray) (k' n' : Int) (s' : ByteArray) : Int := if k = k' then if n = n' then cmpS s s' else cmpI n n' else cmpI k k'

theorem toList_inj {s t : ByteArray} (h : s.toList = t.toList) : s = t := by
  rw [Lib.toList_data, Lib.toList_data] at h
  cases s; cases t; simpa [← Array.toList_inj] using h
theorem less_eq (x : List UInt8) : ∀ y, Op.bytesLess x y = decide (x < y) := by
  induction x with
  | nil => intro y; cases y <;> simp [Op.bytesLess]
  | cons a x ih =>
    intro y
    cases y with
    | nil => simp [Op.bytesLess]
    | cons b y =>
      simp only [Op.bytesLess, ih, List.cons_lt_cons_iff]
      by_cases h : a < b <;> by_cases h' : a = b <;> simp [h, h']
theorem less_trans {a b c : List UInt8} (h : Op.bytesLess a b = true) (h' : Op.bytesLess b c = true) : Op.bytesLess a c = true := by
  rw [less_eq] at *; simp only [decide_eq_true_eq] at *; exact List.lt_trans h h'
theorem less_irrefl (a : List UInt8) : Op.bytesLess a a = false := by
  rw [less_eq]; simp
theorem less_asymm {a b : List UInt8} (h : Op.bytesLess a b = true) : Op.bytesLess b a = false := by
  cases h' : Op.bytesLess b a with
  | false => rfl
  | true => have := less_trans h h'; rw [less_irrefl] at this; cases this
theorem less_total {a b : List UInt8} (h : Op.bytesLess a b = false) (h' : Op.bytesLess b a = false) : a = b := by
  rw [less_eq] at *
  simp only [decide_eq_false_iff_not] at *
  exact List.le_antisymm h' h

theorem cmpI_neg (a b : Int) : cmpI b a = -cmpI a b := by unfold cmpI; split <;> split <;> (try split) <;> omega
theorem cmpI_zero {a b : Int} (h : cmpI a b = 0) : a = b := by unfold cmpI at h; split at h <;> (try split at h) <;> omega
theorem cmpS_self (s : ByteArray) : cmpS s s = 0 := by unfold cmpS; rw [less_irrefl]; simp
theorem cmpS_zero {s t : ByteArray} (h : cmpS s t = 0) : s = t := by
  unfold cmpS at h
  split at h
  · omega
  · split at h
    · exact toList_inj ‹_›
    · omega
theorem cmpS_neg (s t : ByteArray) : cmpS t s = -cmpS s t := by
  unfold cmpS
  cases h : Op.bytesLess s.toList t.toList <;> cases h' : Op.bytesLess t.toList s.toList
  · have := less_total h h'; simp [this]
  · have : ¬ s.toList = t.toList := fun e => by rw [e, less_irrefl] at h'; cases h'
    simp [this]
  · have : ¬ t.toList = s.toList := fun e => by rw [e, less_irrefl] at h; cases h
    simp [this]
  · rw [less_asymm h] at h'; cases h'
theorem cmpV_self (k n : Int) (s : ByteArray) : cmpV k n s k n s = 0 := by simp [cmpV, cmpS_self]
theorem cmpV_neg (k n : Int) (s : ByteArray) (k' n' : Int) (s' : ByteArray) : cmpV k' n' s' k n s = -cmpV k n s k' n' s' := by
  unfold cmpV
  by_cases hk : k = k'
  · subst hk
    by_cases hn : n = n'
    · subst hn; simp [cmpS_neg s s']
    · simp [hn, Ne.symm hn, cmpI_neg n n']
  · simp [hk, Ne.symm hk, cmpI_neg k k']
theorem cmpV_zero {k n : Int} {s : ByteArray} {k' n' : Int} {s' : ByteArray} (h : cmpV k n s k' n' s' = 0) : k = k' ∧ n = n' ∧ s = s' := by
  unfold cmpV at h
  by_cases hk : k = k'
  · by_cases hn : n = n'
    · simp [hk, hn] at h; exact ⟨hk, hn, cmpS_zero h⟩
    · simp [hk, hn] at h; exact absurd (cmpI_zero h) hn
  · simp [hk] at h; exact absurd (cmpI_zero h) hk
theorem cmpI_le {a b : Int} (h : cmpI a b ≤ 0) : a ≤ b := by unfold cmpI at h; split at h <;> (try split at h) <;> omega
theorem cmpI_of_lt {a b : Int} (h : a < b) : cmpI a b = -1 := by simp [cmpI, h]
theorem cmpS_trans {s t u : ByteArray} (h : cmpS s t ≤ 0) (h' : cmpS t u ≤ 0) : cmpS s u ≤ 0 := by
  have key : ∀ {x y : ByteArray}, cmpS x y ≤ 0 → Op.bytesLess x.toList y.toList = true ∨ x = y := fun {x y} h => by
    unfold cmpS at h
    split at h
    · exact .inl ‹_›
    · split at h
      · exact .inr (toList_inj ‹_›)
      · omega
  rcases key h with h | rfl
  · rcases key h' with h' | rfl
    · unfold cmpS; rw [less_trans h h']; simp
    · unfold cmpS; rw [h]; simp
  · exact h'
theorem cmpV_trans {k n : Int} {s : ByteArray} {k' n' : Int} {s' : ByteArray} {k2 n2 : Int} {s2 : ByteArray} (h : cmpV k n s k' n' s' ≤ 0) (h' : cmpV k' n' s' k2 n2 s2 ≤ 0) : cmpV k n s k2 n2 s2 ≤ 0 := by
  unfold cmpV at *
  by_cases hk : k = k'
  · subst hk
    by_cases hk2 : k = k2
    · subst hk2
      simp only [if_true] at *
      by_cases hn : n = n'
      · subst hn
        by_cases hn2 : n = n2
        · subst hn2; simp only [if_true] at *; exact cmpS_trans h h'
        · simp only [hn2, if_true, if_false] at *; exact h'
      · simp only [hn, if_false] at h
        have l := cmpI_le h
        by_cases hn2 : n' = n2
        · subst hn2; simp only [hn, if_false]; exact h
        · simp only [hn2, if_false] at h'
          have l' := cmpI_le h'
          rw [if_neg (by omega), cmpI_of_lt (by omega)]; omega
    · simp only [hk2, if_false] at *; exact h'
  · simp only [hk, if_false] at h
    have l := cmpI_le h
    by_cases hk2 : k' = k2
    · subst hk2; simp only [hk, if_false]; exact h
    · simp only [hk2, if_false] at h'
      have l' := cmpI_le h'
      rw [if_neg (by omega), cmpI_of_lt (by omega)]; omega

def b2i (b : Bool) : Int := if b = true then 1 else 0
/-- Are two values the same? -/
def sameB (k n : Int) (s : ByteArray) (k' n' : Int) (s' : ByteArray) : Bool := cmpV k n s k' n' s' == 0
theorem sameB_yes {k n : Int} {s : ByteArray} {k' n' : Int} {s' : ByteArray} (h : k = k') (h' : n = n') (h2 : s.toList = s'.toList) : sameB k n s k' n' s' = true := by
  obtain rfl := toList_inj h2; subst h h'; simp [sameB, cmpV_self]
theorem sameB_no {k n : Int} {s : ByteArray} {k' n' : Int} {s' : ByteArray} (h : ¬ (k = k' ∧ n = n' ∧ s.toList = s'.toList)) : sameB k n s k' n' s' = false := by
  cases h2 : sameB k n s k' n' s' with
  | false => rfl
  | true =>
    obtain ⟨rfl, rfl, rfl⟩ := cmpV_zero (by simpa [sameB] using h2)
    exact absurd ⟨rfl, rfl, rfl⟩ h
def eqT (k n : Int) (s : ByteArray) (k' n' : Int) (s' : ByteArray) : Int := if k = 0 then 2 else if k' = 0 then 2 else b2i (sameB k n s k' n' s')
def lessT (k n : Int) (s : ByteArray) (k' n' : Int) (s' : ByteArray) : Int := if k = 0 then 2 else if k' = 0 then 2 else b2i (decide (cmpV k n s k' n' s' < 0))

end Go.Proofs.YtpddkljedhghkaaDoor
namespace Go.Proofs.YtpddkljedhghkaaDoor
open Go Go.RowKit

theorem Truth_calls (k n : Int) (s : ByteArray) (w : World) :
    Calls Tryd.prog 118 #[.agg #[.int .i64 k, .int .i64 n, .string s]] w fun e w' => e = .returned (.int .i64 (truT k n)) ∧ Cls w w' := by
  go_enter Tryd.func118, Tryd.ntmps118
  go_wp2
  all_goals
    go_ret
    refine ⟨?_, Cls.of ((Below.refl _ _).alloc (Nat.le_refl _) _)⟩
    simp_all [truT]
theorem Bool_calls (n : Int) (w : World) :
    Calls Tryd.prog 80 #[.int .i64 n] w fun e w' => e = .returned (.agg #[.int .i64 (tvK n), .int .i64 (tvN n), .string ⟨#[]⟩]) ∧ Cls w w' := by
  go_enter Tryd.func80, Tryd.ntmps80
  go_wp2
  all_goals
    refine ret_ex rfl ?_
    simp [results, Tryd.results80, go_sem]
    refine ⟨?_, Cls.of ((Below.refl _ _).alloc (Nat.le_refl _) _)⟩
  all_goals simp_all [tvK, tvN]
  all_goals omega
theorem rBool_calls (n : Int) (w : World) :
    Calls Tryd.prog 93 #[.int .i64 n] w fun e w' => e = .returned (.agg #[.int .i64 (tvK n), .int .i64 (tvN n), .string ⟨#[]⟩]) ∧ Cls w w' := by
  go_enter Tryd.func93, Tryd.ntmps93
  go_wp2
  all_goals
    refine ret_ex rfl ?_
    simp [results, Tryd.results93, go_sem]
    refine ⟨?_, Cls.of ((Below.refl _ _).alloc (Nat.le_refl _) _)⟩
  all_goals simp_all [tvK, tvN]
  all_goals omega
end Go.Proofs.YtpddkljedhghkaaDoor
namespace Go.Proofs.YtpddkljedhghkaaDoor
open Go Go.RowKit

theorem rTruth_calls (k n : Int) (s : ByteArray) (w : World) :
    Calls Tryd.prog 50 #[.agg #[.int .i64 k, .int .i64 n, .string s]] w fun e w' => e = .returned (.int .i64 (truT k n)) ∧ Cls w w' := by
  go_enter Tryd.func50, Tryd.ntmps50
  go_wp2
  all_goals
    go_ret
    refine ⟨?_, Cls.of ((Below.refl _ _).alloc (Nat.le_refl _) _)⟩
    simp_all [truT]
set_option maxHeartbeats 400000 in
theorem decide_and (a b : Int) (w : World) :
    Calls Tryd.prog 119 #[.int .i64 0, .int .i64 a, .int .i64 b] w fun e w' => e = .returned (.agg #[.int .i64 (tvK (andT a b)), .int .i64 (tvN (andT a b)), .string ⟨#[]⟩]) ∧ Cls w w' := by
  go_enter Tryd.func119, Tryd.ntmps119
  go_wp2_with (first | (go_at_call 80; refine (Bool_calls _ _).mono ?_; rintro e _ ⟨rfl, x, rfl⟩))
  all_goals
    refine ret_ex rfl ?_
    simp [results, Tryd.results119, go_sem]
    refine ⟨?_, ?_⟩
  all_goals first | (simp_all [tvK, tvN]; done) | (simp_all [tvK, tvN, andT]; done) | (simp_all [tvK, tvN]; omega) | skip
  all_goals
    refine Cls.of ?_
    repeat first | exact Below.refl _ _ | refine Below.setCell ?_ (by first | omega | (simp; done) | (simp; omega)) _ | refine Below.alloc ?_ (by first | omega | (simp; done) | (simp; omega)) _ | refine Below.drew ?_ | refine Ext.on _ ?_ (by first | omega | (simp; done) | (simp; omega))
set_option maxHeartbeats 400000 in
theorem decide_or (a b : Int) (w : World) :
    Calls Tryd.prog 119 #[.int .i64 1, .int .i64 a, .int .i64 b] w fun e w' => e = .returned (.agg #[.int .i64 (tvK (orT a b)), .int .i64 (tvN (orT a b)), .string ⟨#[]⟩]) ∧ Cls w w' := by
  go_enter Tryd.func119, Tryd.ntmps119
  go_wp2_with (first | (go_at_call 80; refine (Bool_calls _ _).mono ?_; rintro e _ ⟨rfl, x, rfl⟩))
  all_goals
    refine ret_ex rfl ?_
    simp [results, Tryd.results119, go_sem]
    refine ⟨?_, ?_⟩
  all_goals first | (simp_all [tvK, tvN]; done) | (simp_all [tvK, tvN, orT]; done) | (simp_all [tvK, tvN]; omega) | skip
  all_goals
    refine Cls.of ?_
    repeat first | exact Below.refl _ _ | refine Below.setCell ?_ (by first | omega | (simp; done) | (simp; omega)) _ | refine Below.alloc ?_ (by first | omega | (simp; done) | (simp; omega)) _ | refine Below.drew ?_ | refine Ext.on _ ?_ (by first | omega | (simp; done) | (simp; omega))
theorem And_calls (k n : Int) (s : ByteArray) (k' n' : Int) (s' : ByteArray) (w : World) :
    Calls Tryd.prog 90 #[.agg #[.int .i64 k, .int .i64 n, .string s], .agg #[.int .i64 k', .int .i64 n', .string s']] w fun e w' => e = .returned (.agg #[.int .i64 (tvK (andT (truT k n) (truT k' n'))), .int .i64 (tvN (andT (truT k n) (truT k' n'))), .string ⟨#[]⟩]) ∧ Cls w w' := by
  go_enter Tryd.func90, Tryd.ntmps90
  go_wp2
  refine wp_region_ext_tail 5 (by kernel_rfl) (by kernel_rfl) ?_
  simp only [List.take_succ_cons, List.take_zero, List.drop_succ_cons, List.drop_zero]
  repeat (go_big_quiet_step (first | (go_at_call 118; exact Cls.call (Truth_calls _ _ _ _)) | (go_at_call 119; exact Cls.call (decide_and _ _ _))))
  refine wpQuiet_nil ?_
  rintro _ ⟨x, rfl⟩
  go_wp2
  refine ret_ex rfl ?_
  simp [results, Tryd.results90, go_sem]
  refine Cls.of ?_
  repeat first | exact Below.refl _ _ | refine Below.setCell ?_ (by first | omega | (simp; done) | (simp; omega)) _ | refine Below.alloc ?_ (by first | omega | (simp; done) | (simp; omega)) _ | refine Below.drew ?_ | refine Ext.on _ ?_ (by first | omega | (simp; done) | (simp; omega))
theorem Or_calls (k n : Int) (s : ByteArray) (k' n' : Int) (s' : ByteArray) (w : World) :
    Calls Tryd.prog 81 #[.agg #[.int .i64 k, .int .i64 n, .string s], .agg #[.int .i64 k', .int .i64 n', .string s']] w fun e w' => e = .returned (.agg #[.int .i64 (tvK (orT (truT k n) (truT k' n'))), .int .i64 (tvN (orT (truT k n) (truT k' n'))), .string ⟨#[]⟩]) ∧ Cls w w' := by
  go_enter Tryd.func81, Tryd.ntmps81
  go_wp2
  refine wp_region_ext_tail 5 (by kernel_rfl) (by kernel_rfl) ?_
  simp only [List.take_succ_cons, List.take_zero, List.drop_succ_cons, List.drop_zero]
  repeat (go_big_quiet_step (first | (go_at_call 118; exact Cls.call (Truth_calls _ _ _ _)) | (go_at_call 119; exact Cls.call (decide_or _ _ _))))
  refine wpQuiet_nil ?_
  rintro _ ⟨x, rfl⟩
  go_wp2
  refine ret_ex rfl ?_
  simp [results, Tryd.results81, go_sem]
  refine Cls.of ?_
  repeat first | exact Below.refl _ _ | refine Below.setCell ?_ (by first | omega | (simp; done) | (simp; omega)) _ | refine Below.alloc ?_ (by first | omega | (simp; done) | (simp; omega)) _ | refine Below.drew ?_ | refine Ext.on _ ?_ (by first | omega | (simp; done) | (simp; omega))
set_option maxHeartbeats 400000 in
theorem rAnd_calls (k n : Int) (s : ByteArray) (k' n' : Int) (s' : ByteArray) (w : World) :
    Calls Tryd.prog 48 #[.agg #[.int .i64 k, .int .i64 n, .string s], .agg #[.int .i64 k', .int .i64 n', .string s']] w fun e w' => e = .returned (.agg #[.int .i64 (tvK (andT (truT k n) (truT k' n'))), .int .i64 (tvN (andT (truT k n) (truT k' n'))), .string ⟨#[]⟩]) ∧ Cls w w' := by
  go_enter Tryd.func48, Tryd.ntmps48
  go_wp2
  refine wp_region_ext (by kernel_rfl) (by kernel_rfl) ?_
  repeat (go_big_quiet_step ((go_at_call 50; exact Cls.call (rTruth_calls _ _ _ _))))
  refine wpQuiet_nil ?_
  rintro _ ⟨x, rfl⟩
  go_wp2_with (first | (go_at_call 93; with_reducible refine (Cls.call (rBool_calls _ _)).mono ?_; rintro e _ ⟨rfl, y, rfl⟩))
  all_goals
    refine ret_ex rfl ?_
    simp [results, Tryd.results48, go_sem]
    refine ⟨?_, ?_⟩
  all_goals first | (simp_all [tvK, tvN]; done) | (simp_all [tvK, tvN, andT]; done) | (simp_all [tvK, tvN]; omega) | skip
  all_goals
    refine Cls.of ?_
    repeat first | exact Below.refl _ _ | refine Below.setCell ?_ (by first | omega | (simp; done) | (simp; omega)) _ | refine Below.alloc ?_ (by first | omega | (simp; done) | (simp; omega)) _ | refine Below.drew ?_ | refine Ext.on _ ?_ (by first | omega | (simp; done) | (simp; omega))
set_option maxHeartbeats 400000 in
theorem rOr_calls (k n : Int) (s : ByteArray) (k' n' : Int) (s' : ByteArray) (w : World) :
    Calls Tryd.prog 49 #[.agg #[.int .i64 k, .int .i64 n, .string s], .agg #[.int .i64 k', .int .i64 n', .string s']] w fun e w' => e = .returned (.agg #[.int .i64 (tvK (orT (truT k n) (truT k' n'))), .int .i64 (tvN (orT (truT k n) (truT k' n'))), .string ⟨#[]⟩]) ∧ Cls w w' := by
  go_enter Tryd.func49, Tryd.ntmps49
  go_wp2
  refine wp_region_ext (by kernel_rfl) (by kernel_rfl) ?_
  repeat (go_big_quiet_step ((go_at_call 50; exact Cls.call (rTruth_calls _ _ _ _))))
  refine wpQuiet_nil ?_
  rintro _ ⟨x, rfl⟩
  go_wp2_with (first | (go_at_call 93; with_reducible refine (Cls.call (rBool_calls _ _)).mono ?_; rintro e _ ⟨rfl, y, rfl⟩))
  all_goals
    refine ret_ex rfl ?_
    simp [results, Tryd.results49, go_sem]
    refine ⟨?_, ?_⟩
  all_goals first | (simp_all [tvK, tvN]; done) | (simp_all [tvK, tvN, orT]; done) | (simp_all [tvK, tvN]; omega) | skip
  all_goals
    refine Cls.of ?_
    repeat first | exact Below.refl _ _ | refine Below.setCell ?_ (by first | omega | (simp; done) | (simp; omega)) _ | refine Below.alloc ?_ (by first | omega | (simp; done) | (simp; omega)) _ | refine Below.drew ?_ | refine Ext.on _ ?_ (by first | omega | (simp; done) | (simp; omega))
set_option maxHeartbeats 400000 in
theorem Not_calls (k n : Int) (s : ByteArray) (w : World) :
    Calls Tryd.prog 87 #[.agg #[.int .i64 k, .int .i64 n, .string s]] w fun e w' => e = .returned (.agg #[.int .i64 (tvK (notT (truT k n))), .int .i64 (tvN (notT (truT k n))), .string ⟨#[]⟩]) ∧ Cls w w' := by
  have hT := truT_cases k n
  go_enter Tryd.func87, Tryd.ntmps87
  go_wp2_with (first | (go_at_call 118; refine (Truth_calls _ _ _ _).mono ?_; rintro e _ ⟨rfl, x, rfl⟩) | (go_at_call 80; with_reducible refine (Cls.call (Bool_calls _ _)).mono ?_; rintro e _ ⟨rfl, y, rfl⟩))
  all_goals
    refine ret_ex rfl ?_
    simp [results, Tryd.results87, go_sem]
    refine ⟨?_, ?_⟩
  all_goals first | (simp_all [tvK, tvN]; done) | (simp_all [tvK, tvN, notT]; done) | (simp_all [tvK, tvN, notT]; omega) | skip
  all_goals
    refine Cls.of ?_
    repeat first | exact Below.refl _ _ | refine Below.setCell ?_ (by first | omega | (simp; done) | (simp; omega)) _ | refine Below.alloc ?_ (by first | omega | (simp; done) | (simp; omega)) _ | refine Below.drew ?_ | refine Ext.on _ ?_ (by first | omega | (simp; done) | (simp; omega))
set_option maxHeartbeats 400000 in
theorem rNot_calls (k n : Int) (s : ByteArray) (w : World) :
    Calls Tryd.prog 44 #[.agg #[.int .i64 k, .int .i64 n, .string s]] w fun e w' => e = .returned (.agg #[.int .i64 (tvK (notT (truT k n))), .int .i64 (tvN (notT (truT k n))), .string ⟨#[]⟩]) ∧ Cls w w' := by
  have hT := truT_cases k n
  go_enter Tryd.func44, Tryd.ntmps44
  go_wp2_with (first | (go_at_call 50; refine (rTruth_calls _ _ _ _).mono ?_; rintro e _ ⟨rfl, x, rfl⟩) | (go_at_call 93; with_reducible refine (Cls.call (rBool_calls _ _)).mono ?_; rintro e _ ⟨rfl, y, rfl⟩))
  all_goals
    refine ret_ex rfl ?_
    simp [results, Tryd.results44, go_sem]
    refine ⟨?_, ?_⟩
  all_goals first | (simp_all [tvK, tvN]; done) | (simp_all [tvK, tvN, notT]; done) | (simp_all [tvK, tvN]; omega) | skip
  all_goals
    refine Cls.of ?_
    repeat first | exact Below.refl _ _ | refine Below.setCell ?_ (by first | omega | (simp; done) | (simp; omega)) _ | refine Below.alloc ?_ (by first | omega | (simp; done) | (simp; omega)) _ | refine Below.drew ?_ | refine Ext.on _ ?_ (by first | omega | (simp; done) | (simp; omega))
end Go.Proofs.YtpddkljedhghkaaDoor
