/-
  Regions that draw their order and whose callees may make memory: one walk in the order of the text serves every order; the tail, where each operation waits for all before it, is walked in the world that the head leaves. Conditions: every operation of the head leaves what lay below the heap's size at the region's head as it was. Numbers in base 10^9: digits, values, and what the reference's loops reckon. Plain lists and natural numbers.
-/
import Derived.Deep.Quiet
import Derived.StillTail
import Derived.Below
import Derived.Tactics
import Derived.Tactics2
import Derived.WalkKit
namespace Go.Proofs.Ythbdkhmgopahbaa
open Go Go.RowKit

/-- A later world in which all that lay in w is as it was. -/
structure Ext (w : World) where
  val : World
  below : Below w.heap.size w val

instance (w : World) : Nonempty (Ext w) := ⟨⟨w, Below.refl _ w⟩⟩

namespace Ext
@[go_sem] theorem cell {w : World} (x : Ext w) {b : Nat} (o : Nat) (h : b < w.heap.size) : x.val.cell? ⟨b, o, none⟩ = w.cell? ⟨b, o, none⟩ := x.below.cell (p := ⟨b, o, none⟩) h
@[go_sem] theorem frozen {w : World} (x : Ext w) {b : Nat} (o : Nat) (h : b < w.heap.size) : x.val.frozen? ⟨b, o, none⟩ = w.frozen? ⟨b, o, none⟩ := x.below.frozen (p := ⟨b, o, none⟩) h
theorem size {w : World} (x : Ext w) : w.heap.size ≤ x.val.heap.size := x.below.size
theorem block {w : World} (x : Ext w) {b : Nat} (h : b < w.heap.size) : x.val.heap[b]? = w.heap[b]? := x.below.block b h
theorem on {B : Nat} {w0 w : World} (x : Ext w) (h : Below B w0 w) (hB : B ≤ w.heap.size) : Below B w0 x.val := h.trans (x.below.mono hB)
/-- A block of the old world lies below the new one's size, in the spellings that a walk shows. -/
theorem lts {w : World} (x : Ext w) {b : Nat} (h : b < w.heap.size) : b < x.val.heap.size ∧ b < x.val.heap.size + 1 ∧ b < x.val.heap.size + 1 + 1 ∧ b < x.val.heap.size + 1 + 1 + 1 ∧ b < x.val.heap.size + 1 + 1 + 1 + 1 := by
  have := x.size
  refine ⟨?_, ?_, ?_, ?_, ?_⟩ <;> omega
end Ext

/-- w' is a later world than w. -/
def Cls (w w' : World) : Prop := ∃ x : Ext w, w' = x.val
namespace Cls
theorem of {w w' : World} (h : Below w.heap.size w w') : Cls w w' := ⟨⟨w', h⟩, rfl⟩
theorem below {w w' : World} (h : Cls w w') : Below w.heap.size w w' := by obtain ⟨x, rfl⟩ := h; exact x.below
theorem start (w : World) : Cls w { w with drawn := w.drawn + 1 } := of (Below.refl _ w).drew
theorem step {w : World} (x : Ext w) {w' : World} (h : Cls x.val w') : Cls w w' := of (x.below.trans (h.below.mono x.size))
/-- A callee's contract, met in a world of the class. -/
theorem call {P : Program} {f : FuncId} {args : Array Value} {w : World} {x : Ext w} {v : Value}
    (h : Calls P f args x.val fun e w' => e = .returned v ∧ Cls x.val w') : Calls P f args x.val fun e w'' => e = .returned v ∧ ∃ y : Ext w, w'' = y.val :=
  h.mono fun _ _ ⟨he, hm⟩ => ⟨he, step x hm⟩
end Cls

section
variable {P : Program} {ops : Array Oper} {md : Region.Mode} {C : World → Prop}

/-- The head in whatever order is picked, in every world of the class; L: what is asked when f operations have come up. -/
def wpHead (P : Program) (md : Region.Mode) (ops : Array Oper) (C : World → Prop) (n : Nat) (L : Array Bool → Act → Prop) : Nat → Array Bool → Act → Prop
  | 0, done, a => L done a
  | f + 1, done, a => Region.ready md ops done ≠ [] ∧ ∀ i ∈ Region.ready md ops done, i < n ∧ qOp P ops C i (wpHead P md ops C n L f (done.setIfInBounds i true)) a

theorem wpAny_of_wpHead {n g : Nat} {L : Array Bool → Act → Prop} {Q : Exit → Act → World → Prop} (hL : ∀ done a w, C w → L done a → wpAny P md ops Q g done a w) :
    ∀ (f : Nat) (done : Array Bool) (a : Act) (w : World), C w → wpHead P md ops C n L f done a → wpAny P md ops Q (f + g) done a w
  | 0, done, a, w, hw, h => by rw [Nat.zero_add]; exact hL _ _ _ hw h
  | f + 1, done, a, w, hw, h => by
    rw [show f + 1 + g = (f + g) + 1 by omega]
    exact ⟨fun h0 => absurd h0 h.1, fun i hi => wpOp_of_qOp hw (fun a' w' hw' h' => wpAny_of_wpHead hL f _ a' w' hw' h') (h.2 i hi).2⟩

theorem wpHead_first {n i : Nat} {oi : Oper} {v : Value} {L : Array Bool → Act → Prop} (hi : ops[i]? = some oi) (hsel : ∀ (j : Nat) (o : Oper) cs b, ops[j]? = some o → o.op ≠ .select cs b)
    (hs : Region.sinkB md ops n = true) (hc : Region.chainB md ops n = true) (hn : n < ops.size) (hin : i < n) (hdone : ∀ done a, L done a → ∀ j ∈ Region.ready md ops done, n ≤ j) :
    ∀ (f : Nat) (done : Array Bool) (a : Act), HeadInv md ops n done →
      (∀ j oj, ops[j]? = some oj → j ≠ i → done.getD j true = false → (∀ e ∈ oj.after, Region.binds md e = true → e.on ≠ i) → oi.apart ops oj = true) →
      i ∈ Region.ready md ops done → YieldsIn P ops C oi v a → wpHead P md ops C n L f (done.setIfInBounds i true) (a.put oi.dst v) → wpHead P md ops C n L (f + 1) done a := by
  intro f
  induction f with
  | zero =>
    intro done a inv _ hr hy H
    have hun := (mem_ready.1 hr).1
    refine ⟨fun h => (by rw [h] at hr; cases hr), fun j hj => ?_⟩
    have hjn : j < n := Nat.lt_of_not_le fun h => tail_waits hs hc hn inv _ i rfl hin hun j h hj
    refine ⟨hjn, ?_⟩
    by_cases hji : j = i
    · subst hji; exact hy.qOp hi H
    · have := hdone _ _ H j (ready_mono hj hji)
      omega
  | succ f ih =>
    intro done a inv hfree hr hy H
    have hun := (mem_ready.1 hr).1
    refine ⟨fun h => (by rw [h] at hr; cases hr), fun j hj => ?_⟩
    have hjn : j < n := Nat.lt_of_not_le fun h => tail_waits hs hc hn inv _ i rfl hin hun j h hj
    refine ⟨hjn, ?_⟩
    by_cases hji : j = i
    · subst hji; exact hy.qOp hi H
    · obtain ⟨hjun, oj, hoj, hall⟩ := mem_ready.1 hj
      have hnot : ∀ e ∈ oj.after, Region.binds md e = true → e.on ≠ i := fun e he hb heq => by
        have h1 := hall e he hb
        rw [heq, getD_both hun] at h1
        cases h1
      have h2 := qOp_put hoj (hfree j oj hoj hji hjun hnot) (fun cs b => hsel i oi cs b hi) (fun cs b => hsel j oj cs b hoj) hy (H.2 j (ready_mono hj hji)).2
      refine qOp_mono (fun a' h3 => ih (done.setIfInBounds j true) a' (inv.set hj hjn) (fun k ok hk hki hun' hno => ?_) (ready_mono hr (Ne.symm hji)) h3.1 ?_) h2
      · refine hfree k ok hk hki ?_ hno
        by_cases hjk : j = k
        · subst hjk; exact hjun
        · rw [getD_set_ne true hjk] at hun'; exact hun'
      · rw [Array.setIfInBounds_comm _ _ hji]
        exact h3.2

theorem wpHead_lex {n g : Nat} {Lq : Act → Prop} (hsel : Region.noSelect ops = true) (hs : Region.sinkB md ops n = true) (hc : Region.chainB md ops n = true) (hn : n < ops.size) :
    ∀ (l : List Oper) (k : Nat) (done : Array Bool) (a : Act), (∀ j, j < l.length → l[j]? = ops[k + j]?) → k + l.length = n → HeadInv md ops n done →
    Region.lexHead md ops g l.length k done = true → wpQuiet P ops C Lq l a →
    wpHead P md ops C n (fun done' a' => Region.seqB md ops g n done' = true ∧ Lq a') l.length done a
  | [], k, done, a, _, hk, _, hB, h => by
    obtain rfl : k = n := by simpa using hk
    exact ⟨by simpa [Region.lexHead] using hB, h⟩
  | o :: l, k, done, a, hl, hk, inv, hB, h => by
    have h0 : ops[k]? = some o := by simpa using (hl 0 (by simp)).symm
    simp only [List.length_cons, Region.lexHead, Bool.and_eq_true] at hB
    obtain ⟨⟨hr, hf⟩, hB'⟩ := hB
    have hkn : k < n := by simp only [List.length_cons] at hk; omega
    have hr' : k ∈ Region.ready md ops done := by simpa using hr
    have hst : qOp P ops C k (wpQuiet P ops C Lq l) a := by unfold qOp; simp only [h0]; exact h
    obtain ⟨v, hy, hK⟩ := yieldsIn_of_qOp h0 hst
    exact wpHead_first h0 (Region.noSelect_spec hsel) hs hc hn hkn (fun done' a' hL => seqB_ready hL.1) l.length done a inv (Region.free_spec h0 hf) hr' hy
      (wpHead_lex hsel hs hc hn l (k + 1) _ _ (fun j hj => by have := hl (j + 1) (by simp; omega); simpa [Nat.add_assoc, Nat.add_comm 1 j] using this) (by simp only [List.length_cons] at hk; omega) (inv.set hr' hkn) hB' hK)

/-- A region whose first n operations are quiet in the class, in any order, and whose other operations come in one order. -/
theorem wp_region_tail {id : Nat} {Q : Exit → Act → World → Prop} {a : Act} {w : World} {l : List Oper} (n : Nat) (hm : P.follows .mixedOrders = true) (hB : Region.lexTailB .any l.toArray n = true)
    (hC : C { w with drawn := w.drawn + 1 }) (h : wpQuiet P l.toArray C (fun a' => ∀ w', C w' → wpList P l.toArray Q (l.drop n) a' w') (l.take n) a) : (Code.region id l.toArray true).wp P Q a w := by
  simp only [Region.lexTailB, Bool.and_eq_true, decide_eq_true_eq] at hB
  obtain ⟨⟨⟨⟨hsel, hn⟩, hs⟩, hc⟩, hlex⟩ := hB
  have hn' : n < l.length := by simpa using hn
  have htl : (l.take n).length = n := by simp; omega
  have hdl : (l.drop n).length = l.toArray.size - n := by simp
  have inv0 : HeadInv .any l.toArray n (Array.replicate l.toArray.size false) :=
    ⟨by simp, fun j oj _ hl => (by rw [getD_replicate_false] at hl; cases hl), fun t _ ht => getD_in (by simpa using ht) (getD_replicate_false _ _)⟩
  have H := wpHead_lex (md := .any) (g := l.toArray.size - n) hsel hs hc hn (l.take n) 0 _ a (fun j hj => by
    have hj' : j < n := by rw [htl] at hj; exact hj
    simp [hj']) (by simpa using htl) inv0 (by rw [htl]; exact hlex) h
  refine wp_region_any hm ?_
  have := wpAny_of_wpHead (Q := Q) (g := l.toArray.size - n) (fun done a' w' hw' hL => by
    have := wpAny_of_seq (md := .any) (Q' := Q) (l.drop n) n done a' w' (fun j => by simp [List.getElem?_drop]) (by rw [hdl]; exact hL.1) (hL.2 w' hw')
    rwa [hdl] at this) _ _ _ _ hC H
  rw [htl, show n + (l.toArray.size - n) = l.toArray.size by omega] at this
  exact this

/-- The same without a tail. -/
theorem wp_region_ext {id : Nat} {Q : Exit → Act → World → Prop} {a : Act} {w : World} {l : List Oper} (hm : P.follows .mixedOrders = true) (hB : Region.lexB .any l.toArray = true)
    (h : wpQuiet P l.toArray (fun w' => ∃ x : Ext w, w' = x.val) (fun a' => ∀ w', (∃ x : Ext w, w' = x.val) → Q .normal a' w') l a) : (Code.region id l.toArray true).wp P Q a w :=
  wp_region_quiet (C := fun w' => ∃ x : Ext w, w' = x.val) hm hB (Cls.start w) (by simpa using h)

theorem wp_region_ext_tail {id : Nat} {Q : Exit → Act → World → Prop} {a : Act} {w : World} {l : List Oper} (n : Nat) (hm : P.follows .mixedOrders = true) (hB : Region.lexTailB .any l.toArray n = true)
    (h : wpQuiet P l.toArray (fun w' => ∃ x : Ext w, w' = x.val) (fun a' => ∀ w', (∃ x : Ext w, w' = x.val) → wpList P l.toArray Q (l.drop n) a' w') (l.take n) a) : (Code.region id l.toArray true).wp P Q a w :=
  wp_region_tail (C := fun w' => ∃ x : Ext w, w' = x.val) n hm hB (Cls.start w) h

/-- The same from a world that is itself a later world of w0: nothing more is asked. -/
theorem wp_region_on {id : Nat} {Q : Exit → Act → World → Prop} {a : Act} {w0 : World} {x : Ext w0} {l : List Oper} (hm : P.follows .mixedOrders = true) (hB : Region.lexB .any l.toArray = true)
    (h : wpQuiet P l.toArray (fun w' => ∃ x : Ext w0, w' = x.val) (fun a' => ∀ w', (∃ x : Ext w0, w' = x.val) → Q .normal a' w') l a) : (Code.region id l.toArray true).wp P Q a x.val :=
  wp_region_quiet (C := fun w' => ∃ x : Ext w0, w' = x.val) hm hB (Cls.step x (Cls.start x.val)) (by simpa using h)

theorem wp_region_on_tail {id : Nat} {Q : Exit → Act → World → Prop} {a : Act} {w0 : World} {x : Ext w0} {l : List Oper} (n : Nat) (hm : P.follows .mixedOrders = true) (hB : Region.lexTailB .any l.toArray n = true)
    (h : wpQuiet P l.toArray (fun w' => ∃ x : Ext w0, w' = x.val) (fun a' => ∀ w', (∃ x : Ext w0, w' = x.val) → wpList P l.toArray Q (l.drop n) a' w') (l.take n) a) : (Code.region id l.toArray true).wp P Q a x.val :=
  wp_region_tail (C := fun w' => ∃ x : Ext w0, w' = x.val) n hm hB (Cls.step x (Cls.start x.val)) h

/-- A function's end whose result lies in memory: 'simp' reads it. -/
theorem ret_ex {fn : Func} {R : Ending → World → Prop} {a : Act} {w : World} (hd : a.defers = []) (h : ∃ v, (results fn a.tmps).run P w = .ok v w ∧ R (.returned v) w) : bodyPost P fn R .ret a w :=
  ⟨hd, h.choose, h.choose_spec.1, h.choose_spec.2⟩
end

theorem ret_int {k : IntKind} {a b : Int} (h : a = b) : Ending.returned (.int k a) = .returned (.int k b) := by rw [h]
theorem ret_bool {a b : Bool} (h : a = b) : Ending.returned (.bool a) = .returned (.bool b) := by rw [h]
end Go.Proofs.Ythbdkhmgopahbaa
namespace Go.Proofs.Ythbdkhmgopahbaa
/-- The digits of a number in base 10^9, the lowest one first, without zeros at the end. -/
def digs (n : Nat) : List Nat := if h : n = 0 then [] else (n % 1000000000) :: digs (n / 1000000000)
termination_by n
decreasing_by omega
def vl : List Nat → Nat
  | [] => 0
  | d :: l => d + 1000000000 * vl l
def Dg (l : List Nat) : Prop := ∀ d ∈ l, d < 1000000000
theorem digs_zero : digs 0 = [] := by unfold digs; simp
theorem digs_pos {n : Nat} (h : 0 < n) : digs n = (n % 1000000000) :: digs (n / 1000000000) := by
  rw [digs]; rw [dif_neg (by omega)]
theorem vl_digs (n : Nat) : vl (digs n) = n := by
  induction n using Nat.strongRecOn with
  | _ n ih =>
    by_cases h : n = 0
    · subst h; rw [digs_zero]; rfl
    · rw [digs_pos (by omega), vl, ih _ (by omega)]; omega
theorem dg_digs (n : Nat) : Dg (digs n) := by
  induction n using Nat.strongRecOn with
  | _ n ih =>
    by_cases h : n = 0
    · subst h; rw [digs_zero]; intro d hd; cases hd
    · rw [digs_pos (by omega)]
      intro d hd
      rcases List.mem_cons.1 hd with rfl | hd
      · omega
      · exact ih _ (by omega) d hd
theorem Dg.getD {l : List Nat} (h : Dg l) (i : Nat) : l.getD i 0 < 1000000000 := by
  by_cases hi : i < l.length
  · have : l.getD i 0 = l[i] := by simp [List.getD, hi]
    rw [this]; exact h _ (List.getElem_mem hi)
  · have : l.getD i 0 = 0 := by simp [List.getD, List.getElem?_eq_none (Nat.le_of_not_lt hi)]
    omega
theorem Dg.tail {d : Nat} {l : List Nat} (h : Dg (d :: l)) : d < 1000000000 ∧ Dg l := ⟨h d (by simp), fun x hx => h x (by simp [hx])⟩
theorem Dg.take {l : List Nat} (h : Dg l) (n : Nat) : Dg (l.take n) := fun d hd => h d (List.mem_of_mem_take hd)
theorem vl_append (l m : List Nat) : vl (l ++ m) = vl l + 1000000000 ^ l.length * vl m := by
  induction l with
  | nil => simp [vl]
  | cons d l ih => simp only [List.cons_append, vl, ih, List.length_cons, Nat.pow_succ, Nat.mul_add, Nat.add_assoc]; congr 2; ac_rfl
theorem vl_lt {l : List Nat} (h : Dg l) : vl l < 1000000000 ^ l.length := by
  induction l with
  | nil => simp [vl]
  | cons d l ih =>
    have h1 := ih h.tail.2
    have h2 := h.tail.1
    simp only [vl, List.length_cons, Nat.pow_succ]
    generalize 1000000000 ^ l.length = p at *
    omega
theorem vl_one (d : Nat) : vl [d] = d := by simp [vl]
theorem take_snoc' {α : Type} (z : α) (l : List α) (n : Nat) (h : n < l.length) : l.take (n + 1) = l.take n ++ [l.getD n z] := by
  rw [List.take_add_one]; simp [List.getD, h]
theorem vl_take_succ (l : List Nat) (n : Nat) : vl (l.take (n + 1)) = vl (l.take n) + 1000000000 ^ n * l.getD n 0 := by
  by_cases h : n < l.length
  · rw [take_snoc' 0 l n h, vl_append, vl_one, List.length_take, Nat.min_eq_left (by omega)]
  · rw [List.take_of_length_le (by omega), List.take_of_length_le (by omega)]
    have : l.getD n 0 = 0 := by simp [List.getD, List.getElem?_eq_none (Nat.le_of_not_lt h)]
    rw [this]; omega
theorem vl_take_all (l : List Nat) (n : Nat) (h : l.length ≤ n) : vl (l.take n) = vl l := by rw [List.take_of_length_le h]
theorem vl_split (l : List Nat) (n : Nat) : vl l = vl (l.take n) + 1000000000 ^ (min n l.length) * vl (l.drop n) := by
  have := vl_append (l.take n) (l.drop n)
  rw [List.take_append_drop, List.length_take] at this
  exact this
/-- Digits without zeros at the end are those of their value. -/
theorem digs_vl {l : List Nat} (h : Dg l) (h' : l = [] ∨ l.getD (l.length - 1) 0 ≠ 0) : digs (vl l) = l := by
  induction l with
  | nil => simp [vl, digs_zero]
  | cons d l ih =>
    obtain ⟨h1, h2⟩ := h.tail
    have hl : l = [] ∨ l.getD (l.length - 1) 0 ≠ 0 := by
      cases l with
      | nil => exact .inl rfl
      | cons e l => right; rcases h' with h' | h'
                    · cases h'
                    · simpa using h'
    have hp : 0 < d + 1000000000 * vl l := by
      rcases hl with rfl | hl
      · rcases h' with h' | h'
        · cases h'
        · simp at h'; omega
      · have : vl l ≠ 0 := by
          intro h0
          have e := ih h2 (.inr hl)
          rw [h0, digs_zero] at e
          rw [← e] at hl
          simp at hl
        omega
    simp only [vl]
    rw [digs_pos hp, show (d + 1000000000 * vl l) % 1000000000 = d by omega, show (d + 1000000000 * vl l) / 1000000000 = vl l by omega, ih h2 hl]
theorem digs_take {l : List Nat} {k : Nat} (h : Dg l) (hk : k ≤ l.length) (hv : vl (l.take k) = vl l) (h' : k = 0 ∨ l.getD (k - 1) 0 ≠ 0) : l.take k = digs (vl l) := by
  rw [← hv]
  refine (digs_vl (h.take k) ?_).symm
  rcases h' with rfl | h'
  · left; simp
  · by_cases h0 : k = 0
    · left; simp [h0]
    · right
      rw [List.length_take, Nat.min_eq_left hk]
      have : (l.take k).getD (k - 1) 0 = l.getD (k - 1) 0 := by simp [List.getD, show k - 1 < k by omega]
      rwa [this]
/-- What is left when the zeros at the end are struck. -/
theorem take_digs {l : List Nat} (h : Dg l) : l.take (digs (vl l)).length = digs (vl l) := by
  induction l with
  | nil => simp [vl, digs_zero]
  | cons d l ih =>
    obtain ⟨h1, h2⟩ := h.tail
    simp only [vl]
    by_cases h0 : d + 1000000000 * vl l = 0
    · rw [h0, digs_zero]; rfl
    · rw [digs_pos (by omega), show (d + 1000000000 * vl l) % 1000000000 = d by omega, show (d + 1000000000 * vl l) / 1000000000 = vl l by omega, List.length_cons, List.take_succ_cons, ih h2]
theorem digs_len_vl {l : List Nat} (h : Dg l) : (digs (vl l)).length ≤ l.length := by
  have := congrArg List.length (take_digs h)
  rw [List.length_take] at this
  omega
/-- One zero less at the end. -/
theorem trim_step {l : List Nat} {k : Nat} (hv : vl (l.take k) = vl l) (h0 : 0 < k) (hz : l.getD (k - 1) 0 = 0) : vl (l.take (k - 1)) = vl l := by
  have := vl_take_succ l (k - 1)
  rw [show k - 1 + 1 = k by omega, hz, Nat.mul_zero, Nat.add_zero, hv] at this
  exact this.symm
theorem digs_len_le {n k : Nat} (h : n < 1000000000 ^ k) : (digs n).length ≤ k := by
  induction k generalizing n with
  | zero => simp at h; subst h; simp [digs_zero]
  | succ k ih =>
    by_cases h0 : n = 0
    · subst h0; simp [digs_zero]
    · rw [digs_pos (by omega), List.length_cons]
      have : n / 1000000000 < 1000000000 ^ k := by rw [Nat.pow_succ] at h; exact Nat.div_lt_of_lt_mul (by rw [Nat.mul_comm]; exact h)
      have := ih this
      omega
theorem lt_pow_len (n : Nat) : n < 1000000000 ^ (digs n).length := by
  have := vl_lt (dg_digs n); rwa [vl_digs] at this
theorem digs_last {n : Nat} (h : n ≠ 0) : (digs n).getD ((digs n).length - 1) 0 ≠ 0 := by
  induction n using Nat.strongRecOn with
  | _ n ih =>
    rw [digs_pos (by omega)]
    by_cases hd : n / 1000000000 = 0
    · rw [hd, digs_zero]; simp; omega
    · have e := ih (n / 1000000000) (by omega) hd
      have hl : 0 < (digs (n / 1000000000)).length := by
        rw [digs_pos (by omega)]; simp
      have : ((n % 1000000000) :: digs (n / 1000000000)).length - 1 = ((digs (n / 1000000000)).length - 1) + 1 := by simp; omega
      rw [this, List.getD_cons_succ]
      exact e
theorem digs_nil_iff (n : Nat) : (digs n).length = 0 ↔ n = 0 := by
  constructor
  · intro h
    have := lt_pow_len n
    rw [h] at this; simp at this; exact this
  · rintro rfl; simp [digs_zero]
theorem digs_len_pos {n : Nat} (h : 0 < n) : 0 < (digs n).length := by
  rcases Nat.eq_zero_or_pos (digs n).length with h0 | h0
  · have := (digs_nil_iff n).1 h0; omega
  · exact h0
theorem pow_le_digs {n : Nat} (h : n ≠ 0) : 1000000000 ^ ((digs n).length - 1) ≤ n := by
  have h1 := digs_last h
  have hl := digs_len_pos (Nat.pos_of_ne_zero h)
  have h2 := vl_take_succ (digs n) ((digs n).length - 1)
  rw [show (digs n).length - 1 + 1 = (digs n).length by omega, List.take_length, vl_digs] at h2
  generalize (digs n).getD ((digs n).length - 1) 0 = d at *
  have : 1000000000 ^ ((digs n).length - 1) * 1 ≤ 1000000000 ^ ((digs n).length - 1) * d := Nat.mul_le_mul_left _ (by omega)
  omega
theorem lt_of_len_lt {a b : Nat} (h : (digs a).length < (digs b).length) : a < b := by
  have h1 := lt_pow_len a
  have h2 : b ≠ 0 := fun h0 => by rw [h0, digs_zero] at h; cases h
  have h3 := pow_le_digs h2
  have h4 : 1000000000 ^ (digs a).length ≤ 1000000000 ^ ((digs b).length - 1) := Nat.pow_le_pow_right (by omega) (by omega)
  omega
/-- The first digit from above that differs decides. -/
theorem lt_of_digit {l m : List Nat} {i : Nat} (hl : Dg l) (hn : l.length = m.length) (hi : i < l.length) (hd : l.drop (i + 1) = m.drop (i + 1)) (h : l.getD i 0 < m.getD i 0) : vl l < vl m := by
  have e1 := vl_split l (i + 1)
  have e2 := vl_split m (i + 1)
  rw [vl_take_succ, Nat.min_eq_left (by omega)] at e1 e2
  have h1 : vl (l.take i) < 1000000000 ^ i := by
    have := vl_lt (hl.take i)
    rwa [List.length_take, Nat.min_eq_left (by omega)] at this
  rw [hd] at e1
  have h2 : 1000000000 ^ i * l.getD i 0 + 1000000000 ^ i ≤ 1000000000 ^ i * m.getD i 0 := by
    rw [← Nat.mul_succ]; exact Nat.mul_le_mul_left _ h
  omega
theorem drop_step {l m : List Nat} {i : Nat} (hi : i < l.length) (hn : l.length = m.length) (hd : l.drop (i + 1) = m.drop (i + 1)) (h : l.getD i 0 = m.getD i 0) : l.drop i = m.drop i := by
  have hj : i < m.length := hn ▸ hi
  rw [List.drop_eq_getElem_cons hi, List.drop_eq_getElem_cons hj, hd]
  congr 1
  simpa [List.getD, hi, hj] using h
/-! ### Sums -/
def plC (l m : List Nat) : Nat → Nat
  | 0 => 0
  | i + 1 => (plC l m i + l.getD i 0 + m.getD i 0) / 1000000000
def plD (l m : List Nat) (i : Nat) : Nat := (plC l m i + l.getD i 0 + m.getD i 0) % 1000000000
def plL (l m : List Nat) (n : Nat) : List Nat := (List.range n).map (plD l m)
theorem plL_succ (l m : List Nat) (n : Nat) : plL l m (n + 1) = plL l m n ++ [plD l m n] := by simp [plL, List.range_succ]
theorem plL_length (l m : List Nat) (n : Nat) : (plL l m n).length = n := by simp [plL]
theorem plC_le {l m : List Nat} (hl : Dg l) (hm : Dg m) (i : Nat) : plC l m i ≤ 1 := by
  induction i with
  | zero => simp [plC]
  | succ i ih =>
    have h1 := hl.getD i
    have h2 := hm.getD i
    simp only [plC]
    omega
theorem plL_dg (l m : List Nat) (n : Nat) : Dg (plL l m n) := by
  intro d hd
  simp only [plL, List.mem_map] at hd
  obtain ⟨i, _, rfl⟩ := hd
  unfold plD; omega
theorem plL_val (l m : List Nat) (n : Nat) : vl (plL l m n) + 1000000000 ^ n * plC l m n = vl (l.take n) + vl (m.take n) := by
  induction n with
  | zero => simp [plL, plC, vl]
  | succ n ih =>
    rw [plL_succ, vl_append, vl_one, plL_length, vl_take_succ, vl_take_succ]
    simp only [plC, plD, Nat.pow_succ]
    have hdm := Nat.div_add_mod (plC l m n + l.getD n 0 + m.getD n 0) 1000000000
    generalize hq : (plC l m n + l.getD n 0 + m.getD n 0) / 1000000000 = q at *
    generalize hr : (plC l m n + l.getD n 0 + m.getD n 0) % 1000000000 = r at *
    generalize 1000000000 ^ n = p at *
    have e : p * r + p * 1000000000 * q = p * plC l m n + p * l.getD n 0 + p * m.getD n 0 := by
      rw [← Nat.mul_add, ← Nat.mul_add, ← hdm, Nat.mul_add, Nat.mul_assoc]; omega
    omega
theorem plus_end {a b n : Nat} (ha : (digs a).length ≤ n) (hb : (digs b).length ≤ n) : vl (plL (digs a) (digs b) n ++ [plC (digs a) (digs b) n]) = a + b := by
  rw [vl_append, vl_one, plL_length, plL_val, vl_take_all _ _ ha, vl_take_all _ _ hb, vl_digs, vl_digs]
/-! ### Differences -/
def miB (l m : List Nat) : Nat → Nat
  | 0 => 0
  | i + 1 => 1 - (l.getD i 0 + 1000000000 - miB l m i - m.getD i 0) / 1000000000
def miD (l m : List Nat) (i : Nat) : Nat := (l.getD i 0 + 1000000000 - miB l m i - m.getD i 0) % 1000000000
def miL (l m : List Nat) (n : Nat) : List Nat := (List.range n).map (miD l m)
theorem miL_succ (l m : List Nat) (n : Nat) : miL l m (n + 1) = miL l m n ++ [miD l m n] := by simp [miL, List.range_succ]
theorem miL_length (l m : List Nat) (n : Nat) : (miL l m n).length = n := by simp [miL]
theorem miB_le (l m : List Nat) (i : Nat) : miB l m i ≤ 1 := by cases i <;> simp only [miB] <;> omega
theorem miL_dg (l m : List Nat) (n : Nat) : Dg (miL l m n) := by
  intro d hd
  simp only [miL, List.mem_map] at hd
  obtain ⟨i, _, rfl⟩ := hd
  unfold miD; omega
theorem miL_val {l m : List Nat} (hl : Dg l) (hm : Dg m) (n : Nat) : vl (miL l m n) + vl (m.take n) = vl (l.take n) + 1000000000 ^ n * miB l m n := by
  induction n with
  | zero => simp [miL, miB, vl]
  | succ n ih =>
    rw [miL_succ, vl_append, vl_one, miL_length, vl_take_succ, vl_take_succ]
    have h0 := miB_le l m n
    have h1 := hl.getD n
    have h2 := hm.getD n
    simp only [miB, miD, Nat.pow_succ]
    have key : (l.getD n 0 + 1000000000 - miB l m n - m.getD n 0) % 1000000000 + m.getD n 0 + miB l m n = l.getD n 0 + 1000000000 * (1 - (l.getD n 0 + 1000000000 - miB l m n - m.getD n 0) / 1000000000) := by omega
    generalize (l.getD n 0 + 1000000000 - miB l m n - m.getD n 0) % 1000000000 = r at *
    generalize 1 - (l.getD n 0 + 1000000000 - miB l m n - m.getD n 0) / 1000000000 = q at *
    generalize 1000000000 ^ n = p at *
    have e : p * r + p * m.getD n 0 + p * miB l m n = p * l.getD n 0 + p * 1000000000 * q := by
      rw [← Nat.mul_add, ← Nat.mul_add, key, Nat.mul_add, Nat.mul_assoc]
    omega
theorem minus_end {a b n : Nat} (h : b ≤ a) (ha : (digs a).length = n) : vl (miL (digs a) (digs b) n) = a - b := by
  have hb : (digs b).length ≤ n := by
    rcases Nat.lt_or_ge (digs a).length (digs b).length with h' | h'
    · have := lt_of_len_lt h'; omega
    · omega
  have e := miL_val (dg_digs a) (dg_digs b) n
  rw [vl_take_all _ _ hb, vl_take_all _ _ (by omega), vl_digs, vl_digs] at e
  have hlt := vl_lt (miL_dg (digs a) (digs b) n)
  rw [miL_length] at hlt
  have hB := miB_le (digs a) (digs b) n
  rcases (show miB (digs a) (digs b) n = 0 ∨ miB (digs a) (digs b) n = 1 by omega) with h0 | h0
  · rw [h0] at e; omega
  · rw [h0, Nat.mul_one] at e; omega
/-! ### Products -/
theorem vl_set (l : List Nat) (i x : Nat) (h : i < l.length) : vl (l.set i x) + 1000000000 ^ i * l.getD i 0 = vl l + 1000000000 ^ i * x := by
  have e1 := vl_split l (i + 1)
  have e2 := vl_split (l.set i x) (i + 1)
  rw [vl_take_succ, Nat.min_eq_left (by omega)] at e1
  rw [vl_take_succ, Nat.min_eq_left (by simp; omega)] at e2
  have h1 : (l.set i x).take i = l.take i := by rw [List.take_set_of_le (by omega)]
  have h2 : (l.set i x).drop (i + 1) = l.drop (i + 1) := by rw [List.drop_set_of_lt (by omega)]
  have h3 : (l.set i x).getD i 0 = x := by simp [List.getD, h]
  rw [h1, h2, h3] at e2
  omega
theorem dg_set {l : List Nat} (hl : Dg l) {x : Nat} (hx : x < 1000000000) (i : Nat) : Dg (l.set i x) := by
  intro d hd
  rcases List.mem_or_eq_of_mem_set hd with h | rfl
  · exact hl d h
  · exact hx
/-- The state of a row of a product: i: the row, x: its digit, m: the other number's digits, V: what the rows before made. -/
structure MulI (m : List Nat) (N V i x k : Nat) (l : List Nat) (c : Nat) : Prop where
  len : l.length = N
  dg : Dg l
  cB : c < 1000000000
  zero : ∀ j, i + m.length ≤ j → i + k ≤ j → l.getD j 0 = 0
  val : vl l + 1000000000 ^ (i + k) * c = V + 1000000000 ^ i * (x * vl (m.take k))
  kle : k ≤ m.length + 1
  done : k = m.length + 1 → c = 0
theorem MulI.start {m : List Nat} {N V i x : Nat} {l : List Nat} (h : l.length = N) (hd : Dg l) (hz : ∀ j, i + m.length ≤ j → l.getD j 0 = 0) (hv : vl l = V) : MulI m N V i x 0 l 0 :=
  ⟨h, hd, by omega, fun j hj _ => hz j hj, by simp [hv, vl], by omega, fun h => rfl⟩
theorem MulI.sum {m : List Nat} {N V i x k c : Nat} {l : List Nat} (h : MulI m N V i x k l c) (hm : Dg m) (hx : x < 1000000000) : x * m.getD k 0 ≤ 999999998000000001 ∧ c + l.getD (i + k) 0 + x * m.getD k 0 < 1000000000 * 1000000000 := by
  have h1 := hm.getD k
  have h2 := h.dg.getD (i + k)
  have h3 := h.cB
  have : x * m.getD k 0 ≤ 999999999 * 999999999 := Nat.mul_le_mul (by omega) (by omega)
  omega
theorem MulI.step {m : List Nat} {N V i x k c : Nat} {l : List Nat} (h : MulI m N V i x k l c) (hm : Dg m) (hx : x < 1000000000) (hN : i + m.length < N) (hc : k < m.length ∨ 0 < c) :
    MulI m N V i x (k + 1) (l.set (i + k) ((c + l.getD (i + k) 0 + x * m.getD k 0) % 1000000000)) ((c + l.getD (i + k) 0 + x * m.getD k 0) / 1000000000) := by
  obtain ⟨g1, g2⟩ := h.sum hm hx
  obtain ⟨h1, h2, h3, h4, h5, h6, h7⟩ := h
  have hk : k ≤ m.length := by
    rcases hc with hc | hc
    · omega
    · by_cases hk : k = m.length + 1
      · have := h7 hk; omega
      · omega
  have hs := vl_set l (i + k) ((c + l.getD (i + k) 0 + x * m.getD k 0) % 1000000000) (by omega)
  refine ⟨by simp [h1], dg_set h2 (by omega) _, by omega, fun j hj hj2 => ?_, ?_, by omega, fun hk' => ?_⟩
  · have : (l.set (i + k) ((c + l.getD (i + k) 0 + x * m.getD k 0) % 1000000000)).getD j 0 = l.getD j 0 := by
      simp only [List.getD, List.getElem?_set]; rw [if_neg (by omega)]
    rw [this]; exact h4 j hj (by omega)
  · rw [vl_take_succ, Nat.mul_add, Nat.mul_add]
    have hdm := Nat.div_add_mod (c + l.getD (i + k) 0 + x * m.getD k 0) 1000000000
    generalize (c + l.getD (i + k) 0 + x * m.getD k 0) / 1000000000 = q at *
    generalize (c + l.getD (i + k) 0 + x * m.getD k 0) % 1000000000 = r at *
    have e1 : 1000000000 ^ i * (x * (1000000000 ^ k * m.getD k 0)) = 1000000000 ^ (i + k) * (x * m.getD k 0) := by
      rw [Nat.pow_add, Nat.mul_left_comm x, ← Nat.mul_assoc]
    rw [e1, show i + (k + 1) = (i + k) + 1 by omega, Nat.pow_succ]
    generalize 1000000000 ^ (i + k) = p at *
    have e2 : p * r + p * 1000000000 * q = p * c + p * l.getD (i + k) 0 + p * (x * m.getD k 0) := by
      rw [← Nat.mul_add, ← Nat.mul_add, ← hdm, Nat.mul_add, Nat.mul_assoc]; omega
    omega
  · have e1 : m.getD k 0 = 0 := by simp [List.getD, List.getElem?_eq_none (show m.length ≤ k by omega)]
    have e2 := h4 (i + k) (by omega) (Nat.le_refl _)
    rw [e1, e2, Nat.mul_zero]; omega
theorem MulI.end {m : List Nat} {N V i x k c : Nat} {l : List Nat} (h : MulI m N V i x k l c) (h1 : ¬ k < m.length) (h2 : ¬ 0 < c) :
    l.length = N ∧ Dg l ∧ (∀ j, i + 1 + m.length ≤ j → l.getD j 0 = 0) ∧ vl l = V + 1000000000 ^ i * (x * vl m) := by
  have hc : c = 0 := by omega
  refine ⟨h.len, h.dg, fun j hj => h.zero j (by omega) (by have := h.kle; omega), ?_⟩
  have := h.val
  rw [hc, vl_take_all _ _ (by omega)] at this
  simpa using this
theorem mul_row (l m : List Nat) (i : Nat) : vl (l.take i) * vl m + 1000000000 ^ i * (l.getD i 0 * vl m) = vl (l.take (i + 1)) * vl m := by
  rw [vl_take_succ, Nat.add_mul, Nat.mul_assoc]
theorem vl_zeros (n : Nat) : vl (List.replicate n 0) = 0 := by
  induction n with
  | zero => rfl
  | succ n ih => simp [List.replicate_succ, vl, ih]
end Go.Proofs.Ythbdkhmgopahbaa
