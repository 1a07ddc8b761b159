/-
  Expressions as trees: what a slice of expressions holds, how it is kept from world to world, and how an argument is opened.
-/
import Derived.Test.YtilnnpeknkjjmaaChecked
import Derived.Test.YtilnnpeknkjjmaaTail
import Derived.Deep.Slices
import Derived.Deep.Strs
import Derived.Deep.Fields
import Derived.ProofKit
import Derived.Laws.AppendOwn
import Derived.Lib.SmallJoins
import Derived.Lib.Hide
import Derived.LoopTactic
set_option linter.unusedVariables false
namespace Go.Proofs.Ytilnnpeknkjjmaa
open Go Go.RowKit Go.ChangeShapes Go.WideShapes Go.Joins Go.Deep

/-- An expression: its fields, and its Kids. -/
inductive Ex where
  | mk (op ty num : Int) (text : ByteArray) (col : Int) (kids : List Ex)
namespace Ex
def op : Ex → Int | .mk o _ _ _ _ _ => o
def ty : Ex → Int | .mk _ t _ _ _ _ => t
def num : Ex → Int | .mk _ _ n _ _ _ => n
def text : Ex → ByteArray | .mk _ _ _ s _ _ => s
def col : Ex → Int | .mk _ _ _ _ c _ => c
def kids : Ex → List Ex | .mk _ _ _ _ _ l => l
def z : Ex := .mk 0 0 0 ⟨#[]⟩ 0 []
instance : Inhabited Ex := ⟨z⟩
theorem ind {M : Ex → Prop} (h : ∀ e, (∀ k ∈ e.kids, M k) → M e) (e : Ex) : M e := by
  have key : ∀ (n : Nat) (e : Ex), SizeOf.sizeOf e = n → M e := by
    intro n
    induction n using Nat.strongRecOn with
    | _ n ih =>
      intro e he
      refine h e fun k hk => ih (SizeOf.sizeOf k) ?_ k rfl
      cases e with
      | mk o t n' s c l =>
        have := List.sizeOf_lt_of_mem (show k ∈ l from hk)
        simp only [Ex.mk.sizeOf_spec] at he
        omega
  exact key _ e rfl
/-- The numbers are ones that Go's types hold. -/
def fine (e : Ex) : Prop := (Lit.int .i64 e.op).wf = true ∧ (Lit.int .i64 e.ty).wf = true ∧ (Lit.int .i64 e.num).wf = true ∧ e.text.size ≤ maxLen ∧ (Lit.int .i64 e.col).wf = true
end Ex

/-- The i-th cells behind a are those of e, its Kids behind a'. -/
def ExAt (w : World) (ok : Nat → Prop) (a : Option Addr) (i : Nat) (e : Ex) (a' : Option Addr) (len' cap' : Nat) : Prop :=
  ∃ b off, a = some ⟨b, off, none⟩ ∧ b < w.heap.size ∧ ok b ∧ w.cell? ⟨b, off + i * 6, none⟩ = some (.int .i64 e.op) ∧ w.cell? ⟨b, off + i * 6 + 1, none⟩ = some (.int .i64 e.ty) ∧
    w.cell? ⟨b, off + i * 6 + 2, none⟩ = some (.int .i64 e.num) ∧ w.cell? ⟨b, off + i * 6 + 3, none⟩ = some (.string e.text) ∧ w.cell? ⟨b, off + i * 6 + 4, none⟩ = some (.int .i64 e.col) ∧
    w.cell? ⟨b, off + i * 6 + 5, none⟩ = some (.slice a' len' cap')
/-- The slice holds these expressions; each block of theirs is one that ok lets in. -/
inductive Kids (w : World) (ok : Nat → Prop) : Option Addr → Nat → Nat → List Ex → Prop
  | mk (a : Option Addr) (len cap : Nat) (l : List Ex) (ad : Nat → Option Addr) (lens caps : Nat → Nat) (hl : l.length = len) (hc : len ≤ cap) (hm : cap ≤ maxLen) (hn : a = none → len = 0 ∧ cap = 0)
      (hcell : ∀ i, i < len → ExAt w ok a i (l.getD i Ex.z) (ad i) (lens i) (caps i)) (hf : ∀ i, i < len → (l.getD i Ex.z).fine) (h : ∀ i, i < len → Kids w ok (ad i) (lens i) (caps i) (l.getD i Ex.z).kids) : Kids w ok a len cap l

theorem ExAt.carry {w w' : World} {ok ok' : Nat → Prop} {a : Option Addr} {i : Nat} {e : Ex} {a' : Option Addr} {len' cap' : Nat} (hs : w.heap.size ≤ w'.heap.size) (hb : ∀ b, b < w.heap.size → ok b → ok' b ∧ w'.heap[b]? = w.heap[b]?) (h : ExAt w ok a i e a' len' cap') : ExAt w' ok' a i e a' len' cap' := by
  obtain ⟨b, off, ha, hlt, hok, h0, h1, h2, h3, h4, h5⟩ := h
  obtain ⟨hok', he⟩ := hb b hlt hok
  have key : ∀ o, w'.cell? ⟨b, o, none⟩ = w.cell? ⟨b, o, none⟩ := fun o => World.cell?_of_block (w := w) he
  exact ⟨b, off, ha, Nat.lt_of_lt_of_le hlt hs, hok', by rw [key]; exact h0, by rw [key]; exact h1, by rw [key]; exact h2, by rw [key]; exact h3, by rw [key]; exact h4, by rw [key]; exact h5⟩
theorem Kids.carry {w w' : World} {ok ok' : Nat → Prop} {a : Option Addr} {len cap : Nat} {l : List Ex} (hs : w.heap.size ≤ w'.heap.size) (hb : ∀ b, b < w.heap.size → ok b → ok' b ∧ w'.heap[b]? = w.heap[b]?) (h : Kids w ok a len cap l) : Kids w' ok' a len cap l := by
  induction h with
  | mk a len cap l ad lens caps hl hc hm hn hcell hf h ih => exact .mk a len cap l ad lens caps hl hc hm hn (fun i hi => (hcell i hi).carry hs hb) hf ih
theorem Kids.later {w w' : World} {ok : Nat → Prop} {a : Option Addr} {len cap : Nat} {l : List Ex} (h : Kids w ok a len cap l) (hb : Below w.heap.size w w') : Kids w' ok a len cap l := h.carry hb.size fun b hlt hok => ⟨hok, hb.block b hlt⟩
theorem Kids.ext1 {w : World} {o : Obj} {ok : Nat → Prop} {a : Option Addr} {len cap : Nat} {l : List Ex} (h : Kids w ok a len cap l) (x : Ext (w.alloc o)) : Kids x.val ok a len cap l := (h.later ((Below.refl _ _).alloc (Nat.le_refl _) _)).later x.below
theorem Kids.ext2 {w : World} {o o' : Obj} {ok : Nat → Prop} {a : Option Addr} {len cap : Nat} {l : List Ex} (h : Kids w ok a len cap l) (x : Ext ((w.alloc o).alloc o')) : Kids x.val ok a len cap l := (h.later (((Below.refl _ _).alloc (Nat.le_refl _) _).alloc (by simp) _)).later x.below
theorem Kids.any {w : World} {ok : Nat → Prop} {a : Option Addr} {len cap : Nat} {l : List Ex} (h : Kids w ok a len cap l) : Kids w (fun _ => True) a len cap l := h.carry (Nat.le_refl _) fun _ _ _ => ⟨trivial, rfl⟩
theorem Kids.len_eq {w : World} {ok : Nat → Prop} {a : Option Addr} {len cap : Nat} {l : List Ex} (h : Kids w ok a len cap l) : l.length = len := by cases h; assumption
theorem Kids.le {w : World} {ok : Nat → Prop} {a : Option Addr} {len cap : Nat} {l : List Ex} (h : Kids w ok a len cap l) : len ≤ cap := by cases h; assumption
theorem Kids.max {w : World} {ok : Nat → Prop} {a : Option Addr} {len cap : Nat} {l : List Ex} (h : Kids w ok a len cap l) : cap ≤ maxLen := by cases h; assumption
theorem Kids.bare {w : World} {ok : Nat → Prop} {a : Option Addr} {len cap : Nat} {l : List Ex} (h : Kids w ok a len cap l) : a = none → len = 0 ∧ cap = 0 := by cases h; assumption
theorem Kids.at_ {w : World} {ok : Nat → Prop} {a : Option Addr} {len cap : Nat} {l : List Ex} (h : Kids w ok a len cap l) {i : Nat} (hi : i < len) : ∃ a' len' cap', ExAt w ok a i (l.getD i Ex.z) a' len' cap' ∧ (l.getD i Ex.z).fine ∧ Kids w ok a' len' cap' (l.getD i Ex.z).kids := by
  cases h with
  | mk _ _ _ _ ad lens caps hl hc hm hn hcell hf h => exact ⟨_, _, _, hcell i hi, hf i hi, h i hi⟩
theorem Kids.none {w : World} {ok : Nat → Prop} : Kids w ok Option.none 0 0 [] := .mk Option.none 0 0 [] (fun _ => Option.none) (fun _ => 0) (fun _ => 0) rfl (Nat.le_refl _) (Nat.zero_le _) (fun _ => ⟨rfl, rfl⟩) (fun i h => absurd h (by omega)) (fun i h => absurd h (by omega)) (fun i h => absurd h (by omega))

theorem getD_mem {l : List Ex} {i : Nat} (h : i < l.length) : l.getD i Ex.z ∈ l := by
  simp [List.getD, h]
theorem dropE {l : List Ex} {j : Nat} (h : j < l.length) : l.drop j = l.getD j Ex.z :: l.drop (j + 1) := by
  rw [List.drop_eq_getElem_cons h]; simp [List.getD, h]

/-! ### An argument opened -/
theorem cellsEx : Try.prog.cellsOf 39 = 6 := by kernel_rfl
theorem cells_below {w : World} {p : Addr} {v : Value} (h : w.cell? p = some v) : p.block < w.heap.size := by
  rcases Nat.lt_or_ge p.block w.heap.size with h' | h'
  · exact h'
  · simp [World.cell?, Array.getElem?_eq_none h'] at h
theorem list6 {α : Type} {l : List α} (h : l.length = 6) : ∃ a b c d e f, l = [a, b, c, d, e, f] := by
  match l, h with
  | [a, b, c, d, e, f], _ => exact ⟨a, b, c, d, e, f, rfl⟩
section
variable {H : Type} {enc : TypeId × Value → H} {w : World} {base : Nat} {spare : Nat → Bool} {held : Bool}
theorem trod_struct6 {P : Program} {t : TypeId} {f0 f1 f2 f3 f4 f5 : Field} {fuel : Nat} {cs : List Value} {x : DataW H × List MemPlace} (ht : P.underlying t = some (.struct #[f0, f1, f2, f3, f4, f5])) (hone : oneCellFields P #[f0, f1, f2, f3, f4, f5] = true) (hC : P.cellsOf t = 6)
    (h : DataW.trod enc P w base spare held fuel t cs = some x) : ∃ c0 c1 c2 c3 c4 c5 y0 y1 y2 y3 y4 y5 n, fuel = n + 1 ∧ cs = [c0, c1, c2, c3, c4, c5] ∧ DataW.trod enc P w base spare held n f0.type [c0] = some y0 ∧ DataW.trod enc P w base spare held n f1.type [c1] = some y1 ∧
      DataW.trod enc P w base spare held n f2.type [c2] = some y2 ∧ DataW.trod enc P w base spare held n f3.type [c3] = some y3 ∧ DataW.trod enc P w base spare held n f4.type [c4] = some y4 ∧ DataW.trod enc P w base spare held n f5.type [c5] = some y5 := by
  obtain ⟨xs, n, hn, _, hl, hlen, hg⟩ := DataW.trod_struct ht h
  obtain ⟨c0, c1, c2, c3, c4, c5, rfl⟩ := list6 (hl.trans hC)
  obtain ⟨o0, k0⟩ := hone_of hone 0 f0 rfl
  obtain ⟨o1, k1⟩ := hone_of hone 1 f1 rfl
  obtain ⟨o2, k2⟩ := hone_of hone 2 f2 rfl
  obtain ⟨o3, k3⟩ := hone_of hone 3 f3 rfl
  obtain ⟨o4, k4⟩ := hone_of hone 4 f4 rfl
  obtain ⟨o5, k5⟩ := hone_of hone 5 f5 rfl
  match xs, hlen with
  | [y0, y1, y2, y3, y4, y5], _ =>
    exact ⟨c0, c1, c2, c3, c4, c5, y0, y1, y2, y3, y4, y5, n, hn, rfl, by simpa [o0, k0] using hg 0 f0 rfl, by simpa [o1, k1] using hg 1 f1 rfl, by simpa [o2, k2] using hg 2 f2 rfl, by simpa [o3, k3] using hg 3 f3 rfl, by simpa [o4, k4] using hg 4 f4 rfl, by simpa [o5, k5] using hg 5 f5 rfl⟩
set_option maxRecDepth 100000 in
theorem open_kids : ∀ (fuel : Nat) (cs : List Value) (x : DataW H × List MemPlace), DataW.trod enc Try.prog w base spare held fuel 34 cs = some x → ∃ a len cap l, cs = [.slice a len cap] ∧ Kids w (fun _ => True) a len cap l := by
  intro fuel
  induction fuel using Nat.strongRecOn with
  | _ fuel ih =>
    intro cs x h
    rcases DataW.trod_slice Try.underlying34 h with ⟨rfl, _⟩ | ⟨a, len, cap, elems, rest, n, hn, rfl, rfl, hb, hl, hm, hlen, hel, _, _⟩
    · exact ⟨none, 0, 0, [], rfl, .none⟩
    · have hi : ∀ i, i < len → ∃ (e : Ex) (a' : Option Addr) (len' cap' : Nat), (w.cell? (a.add (i * 6)) = some (.int .i64 e.op) ∧ w.cell? (a.add (i * 6 + 1)) = some (.int .i64 e.ty) ∧ w.cell? (a.add (i * 6 + 2)) = some (.int .i64 e.num) ∧
          w.cell? (a.add (i * 6 + 3)) = some (.string e.text) ∧ w.cell? (a.add (i * 6 + 4)) = some (.int .i64 e.col) ∧ w.cell? (a.add (i * 6 + 5)) = some (.slice a' len' cap')) ∧ e.fine ∧ Kids w (fun _ => True) a' len' cap' e.kids := fun i hil => by
        have h1 := hel i hil
        rw [List.getElem?_eq_getElem (by omega), cellsEx] at h1
        obtain ⟨cs', hc, ht⟩ := Option.bind_eq_some_iff.1 h1
        obtain ⟨_, hcl, hat⟩ := World.cells?_some hc
        obtain ⟨c0, c1, c2, c3, c4, c5, y0, y1, y2, y3, y4, y5, m, hnm, rfl, t0, t1, t2, t3, t4, t5⟩ := trod_struct6 Try.underlying39 (by kernel_rfl) cellsEx ht
        obtain ⟨k0, e0, _, f0⟩ := DataW.trod_int Try.underlying3 t0
        obtain ⟨k1, e1, _, f1⟩ := DataW.trod_int Try.underlying3 t1
        obtain ⟨k2, e2, _, f2⟩ := DataW.trod_int Try.underlying2 t2
        obtain ⟨k3, e3, _, f3⟩ := DataW.trod_string Try.underlying9 t3
        obtain ⟨k4, e4, _, f4⟩ := DataW.trod_int Try.underlying3 t4
        obtain ⟨a', len', cap', l', e5, hk⟩ := ih m (by omega) _ _ t5
        simp only [List.cons.injEq, and_true] at e0 e1 e2 e3 e4 e5
        subst e0 e1 e2 e3 e4 e5
        refine ⟨.mk k0 k1 k2 k3 k4 l', a', len', cap', ⟨?_, ?_, ?_, ?_, ?_, ?_⟩, ⟨f0, f1, f2, f3, f4⟩, hk⟩
        · have := hat 0 (by omega); rw [Go.Deep.add_add] at this; exact this
        · have := hat 1 (by omega); rw [Go.Deep.add_add] at this; exact this
        · have := hat 2 (by omega); rw [Go.Deep.add_add] at this; exact this
        · have := hat 3 (by omega); rw [Go.Deep.add_add] at this; exact this
        · have := hat 4 (by omega); rw [Go.Deep.add_add] at this; exact this
        · have := hat 5 (by omega); rw [Go.Deep.add_add] at this; exact this
      obtain ⟨u, hu⟩ := Go.Deep.choose_lt hi
      obtain ⟨ad, hu⟩ := Go.Deep.choose_lt hu
      obtain ⟨lens, hu⟩ := Go.Deep.choose_lt hu
      obtain ⟨caps, hu⟩ := Go.Deep.choose_lt hu
      have hg : ∀ i, i < len → ((List.range len).map u).getD i Ex.z = u i := fun i hi' => by simp [List.getD, hi']
      refine ⟨some a, len, cap, (List.range len).map u, rfl, .mk (some a) len cap _ ad lens caps (by simp) hl hm (fun h => by cases h) (fun i hi' => ?_) (fun i hi' => by rw [hg i hi']; exact (hu i hi').2.1) (fun i hi' => by rw [hg i hi']; exact (hu i hi').2.2)⟩
      rw [hg i hi']
      obtain ⟨h0, h1, h2, h3, h4, h5⟩ := (hu i hi').1
      obtain ⟨b, off, spot⟩ := a
      have hspot : spot = none := by simpa [Addr.add] using World.cell?_spot (hu 0 (by omega)).1.1
      subst hspot
      have hadd : ∀ j, (⟨b, off, none⟩ : Addr).add j = ⟨b, off + j, none⟩ := fun j => by unfold Addr.add; split <;> simp_all
      rw [hadd] at h0 h1 h2 h3 h4 h5
      exact ⟨b, off, rfl, cells_below h0, trivial, h0, by rw [Nat.add_assoc]; exact h1, by rw [Nat.add_assoc]; exact h2, by rw [Nat.add_assoc]; exact h3, by rw [Nat.add_assoc]; exact h4, by rw [Nat.add_assoc]; exact h5⟩
set_option maxRecDepth 100000 in
theorem open_ex {r : Reach} {b0 : Nat} {v : Value} {d : DataW H} {p : List MemPlace} (hval : Value.okWide Try.prog w r b0 39 v) (h : DataW.Trod enc Try.prog w base spare held 39 v d p) :
    ∃ (e : Ex) (a : Option Addr) (len cap : Nat), v = .agg #[.int .i64 e.op, .int .i64 e.ty, .int .i64 e.num, .string e.text, .int .i64 e.col, .slice a len cap] ∧ e.fine ∧ Kids w (fun _ => True) a len cap e.kids := by
  obtain ⟨cs, rfl, hsz⟩ := okWide_struct Try.underlying39 hval
  obtain ⟨fuel, hf⟩ := h
  obtain ⟨c0, c1, c2, c3, c4, c5, y0, y1, y2, y3, y4, y5, m, hnm, hcs, t0, t1, t2, t3, t4, t5⟩ := trod_struct6 Try.underlying39 (by kernel_rfl) cellsEx hf
  obtain ⟨k0, e0, _, f0⟩ := DataW.trod_int Try.underlying3 t0
  obtain ⟨k1, e1, _, f1⟩ := DataW.trod_int Try.underlying3 t1
  obtain ⟨k2, e2, _, f2⟩ := DataW.trod_int Try.underlying2 t2
  obtain ⟨k3, e3, _, f3⟩ := DataW.trod_string Try.underlying9 t3
  obtain ⟨k4, e4, _, f4⟩ := DataW.trod_int Try.underlying3 t4
  obtain ⟨a', len', cap', l', e5, hk⟩ := open_kids _ _ _ t5
  simp only [List.cons.injEq, and_true] at e0 e1 e2 e3 e4 e5
  subst e0 e1 e2 e3 e4 e5
  refine ⟨.mk k0 k1 k2 k3 k4 l', a', len', cap', ?_, ⟨f0, f1, f2, f3, f4⟩, hk⟩
  obtain ⟨l⟩ := cs
  simp [Value.cells] at hcs
  simp [hcs, Ex.op, Ex.ty, Ex.num, Ex.text, Ex.col]
end
end Go.Proofs.Ytilnnpeknkjjmaa
