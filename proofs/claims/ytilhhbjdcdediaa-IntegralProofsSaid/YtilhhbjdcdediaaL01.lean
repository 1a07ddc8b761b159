/-
  Proofs as trees: what lies in memory, and how an argument is opened. Proofs: whether one is small, and the reference's Size and depth. The program's count of a proof's nodes.
-/
import Derived.Test.YtilhhbjdcdediaaJ23
import Derived.Test.YtilhhbjdcdediaaJ10
import Derived.WalkKit
import Derived.Test.YtilhhbjdcdediaaJ17
set_option linter.unusedVariables false
namespace Go.Proofs.Ytilhhbjdcdediaa
open Go Go.RowKit Go.ChangeShapes Go.WideShapes Go.Joins Go.Deep
/-- A proof: its fields, and its Kids. -/
inductive Pf where
  | mk (kind : Int) (mu : Sl) (mn md : Nat → Int) (v bd : Int) (ks : Sl) (kids : List Pf)
namespace Pf
def kind : Pf → Int | .mk k _ _ _ _ _ _ _ => k
def mu : Pf → Sl | .mk _ m _ _ _ _ _ _ => m
def mn : Pf → Nat → Int | .mk _ _ f _ _ _ _ _ => f
def md : Pf → Nat → Int | .mk _ _ _ g _ _ _ _ => g
def v : Pf → Int | .mk _ _ _ _ v _ _ _ => v
def bd : Pf → Int | .mk _ _ _ _ _ b _ _ => b
def ks : Pf → Sl | .mk _ _ _ _ _ _ s _ => s
def kids : Pf → List Pf | .mk _ _ _ _ _ _ _ l => l
def z : Pf := .mk 0 ⟨none, 0, 0⟩ (fun _ => 0) (fun _ => 0) 0 0 ⟨none, 0, 0⟩ []
instance : Inhabited Pf := ⟨z⟩
/-- The value of a proof. -/
def val (p : Pf) : Value := .agg #[.int .i64 p.kind, .slice p.mu.a p.mu.len p.mu.cap, .int .i64 p.v, .int .i64 p.bd, .slice p.ks.a p.ks.len p.ks.cap]
theorem ind {M : Pf → Prop} (h : ∀ e, (∀ k ∈ e.kids, M k) → M e) (e : Pf) : M e := by
  have key : ∀ (n : Nat) (e : Pf), SizeOf.sizeOf e = n → M e := by
    intro n
    induction n using Nat.strongRecOn with
    | _ n ih =>
      intro e he
      refine h e fun k hk => ih (SizeOf.sizeOf k) ?_ k rfl
      cases e with
      | mk o t n' s c d f l =>
        have := List.sizeOf_lt_of_mem (show k ∈ l from hk)
        simp only [Pf.mk.sizeOf_spec] at he
        omega
  exact key _ e rfl
end Pf
/-- The i-th cells behind are those of p. -/
def PfCells (w : World) (b off i : Nat) (p : Pf) : Prop :=
  w.cell? ⟨b, off + i * 5, none⟩ = some (.int .i64 p.kind) ∧ w.cell? ⟨b, off + i * 5 + 1, none⟩ = some (.slice p.mu.a p.mu.len p.mu.cap) ∧ w.cell? ⟨b, off + i * 5 + 2, none⟩ = some (.int .i64 p.v) ∧ w.cell? ⟨b, off + i * 5 + 3, none⟩ = some (.int .i64 p.bd) ∧ w.cell? ⟨b, off + i * 5 + 4, none⟩ = some (.slice p.ks.a p.ks.len p.ks.cap)
/-- The proof lies there with all its Kids. -/
inductive PfA (w : World) : Pf → Prop
  | mk (p : Pf) (hm : FrsA w p.mu p.mn p.md) (hi : ∀ i, i < p.mu.len → In64 (p.mn i) ∧ In64 (p.md i)) (hk : In64 p.kind) (hv : In64 p.v) (hb : In64 p.bd) (hl : p.kids.length = p.ks.len) (hc : p.ks.len ≤ p.ks.cap) (hx : p.ks.cap ≤ maxLen)
      (hcell : p.ks.len = 0 ∨ ∃ b off, p.ks.a = some ⟨b, off, none⟩ ∧ b < w.heap.size ∧ ∀ i, i < p.ks.len → PfCells w b off i (p.kids.getD i Pf.z)) (h : ∀ i, i < p.ks.len → PfA w (p.kids.getD i Pf.z)) : PfA w p
theorem PfA.later {w w' : World} {p : Pf} (h : PfA w p) (hb : Below w.heap.size w w') : PfA w' p := by
  induction h with
  | mk p hm hi hk hv hbd hl hc hx hcell h ih =>
    refine .mk p (hm.later hb) hi hk hv hbd hl hc hx (hcell.imp id ?_) ih
    rintro ⟨b, off, ha, hlt, hcl⟩
    refine ⟨b, off, ha, Nat.lt_of_lt_of_le hlt hb.size, fun i hi => ?_⟩
    obtain ⟨h0, h1, h2, h3, h4⟩ := hcl i hi
    exact ⟨(hb.cell (p := ⟨b, _, none⟩) hlt).trans h0, (hb.cell (p := ⟨b, _, none⟩) hlt).trans h1, (hb.cell (p := ⟨b, _, none⟩) hlt).trans h2, (hb.cell (p := ⟨b, _, none⟩) hlt).trans h3, (hb.cell (p := ⟨b, _, none⟩) hlt).trans h4⟩
theorem PfA.frs {w : World} {p : Pf} (h : PfA w p) : FrsA w p.mu p.mn p.md ∧ ∀ i, i < p.mu.len → In64 (p.mn i) ∧ In64 (p.md i) := by cases h; exact ⟨‹_›, ‹_›⟩
theorem PfA.nums {w : World} {p : Pf} (h : PfA w p) : In64 p.kind ∧ In64 p.v ∧ In64 p.bd := by cases h; exact ⟨‹_›, ‹_›, ‹_›⟩
theorem PfA.lens {w : World} {p : Pf} (h : PfA w p) : p.kids.length = p.ks.len ∧ p.ks.len ≤ p.ks.cap ∧ p.ks.cap ≤ maxLen := by cases h; exact ⟨‹_›, ‹_›, ‹_›⟩
theorem PfA.cells {w : World} {p : Pf} (h : PfA w p) : p.ks.len = 0 ∨ ∃ b off, p.ks.a = some ⟨b, off, none⟩ ∧ b < w.heap.size ∧ ∀ i, i < p.ks.len → PfCells w b off i (p.kids.getD i Pf.z) := by cases h; assumption
theorem PfA.kid {w : World} {p : Pf} (h : PfA w p) {i : Nat} (hi : i < p.ks.len) : PfA w (p.kids.getD i Pf.z) := by
  cases h with
  | mk _ _ _ _ _ _ _ _ _ _ h => exact h i hi
theorem pf_mem {l : List Pf} {i : Nat} (h : i < l.length) : l.getD i Pf.z ∈ l := by simp [List.getD, h]
theorem cellsPf : Try.prog.cellsOf 48 = 5 := by kernel_rfl
theorem list5 {α : Type} {l : List α} (h : l.length = 5) : ∃ a b c d e, l = [a, b, c, d, e] := by
  match l, h with
  | [a, b, c, d, e], _ => exact ⟨a, b, c, d, e, rfl⟩
section
variable {H : Type} {enc : TypeId × Value → H} {w : World} {base : Nat} {spare : Nat → Bool} {held : Bool}
theorem trod_struct5 {P : Program} {t : TypeId} {f0 f1 f2 f3 f4 : Field} {fuel : Nat} {cs : List Value} {x : DataW H × List MemPlace} (ht : P.underlying t = some (.struct #[f0, f1, f2, f3, f4])) (hone : oneCellFields P #[f0, f1, f2, f3, f4] = true) (hC : P.cellsOf t = 5)
    (h : DataW.trod enc P w base spare held fuel t cs = some x) : ∃ c0 c1 c2 c3 c4 y0 y1 y2 y3 y4 n, fuel = n + 1 ∧ cs = [c0, c1, c2, c3, c4] ∧ DataW.trod enc P w base spare held n f0.type [c0] = some y0 ∧ DataW.trod enc P w base spare held n f1.type [c1] = some y1 ∧
      DataW.trod enc P w base spare held n f2.type [c2] = some y2 ∧ DataW.trod enc P w base spare held n f3.type [c3] = some y3 ∧ DataW.trod enc P w base spare held n f4.type [c4] = some y4 := by
  obtain ⟨xs, n, hn, _, hl, hlen, hg⟩ := DataW.trod_struct ht h
  obtain ⟨c0, c1, c2, c3, c4, rfl⟩ := list5 (hl.trans hC)
  obtain ⟨o0, k0⟩ := hone_of hone 0 f0 rfl
  obtain ⟨o1, k1⟩ := hone_of hone 1 f1 rfl
  obtain ⟨o2, k2⟩ := hone_of hone 2 f2 rfl
  obtain ⟨o3, k3⟩ := hone_of hone 3 f3 rfl
  obtain ⟨o4, k4⟩ := hone_of hone 4 f4 rfl
  match xs, hlen with
  | [y0, y1, y2, y3, y4], _ =>
    exact ⟨c0, c1, c2, c3, c4, y0, y1, y2, y3, y4, n, hn, rfl, by simpa [o0, k0] using hg 0 f0 rfl, by simpa [o1, k1] using hg 1 f1 rfl, by simpa [o2, k2] using hg 2 f2 rfl, by simpa [o3, k3] using hg 3 f3 rfl, by simpa [o4, k4] using hg 4 f4 rfl⟩
/-- A list of fractions among the cells. -/
theorem frs_of {fuel : Nat} {cs : List Value} {x : DataW H × List MemPlace} (h : DataW.trod enc Try.prog w base spare held fuel 23 cs = some x) :
    ∃ (s : Sl) (f g : Nat → Int), cs = [.slice s.a s.len s.cap] ∧ FrsA w s f g ∧ ∀ i, i < s.len → In64 (f i) ∧ In64 (g i) := by
  rcases DataW.trod_slice Try.underlying23 h with ⟨rfl, _⟩ | ⟨a, len, cap, elems, rest, n, hn, rfl, rfl, hb, hl, hm, hlen, hel, _, _⟩
  · exact ⟨⟨none, 0, 0⟩, fun _ => 0, fun _ => 0, rfl, ⟨Nat.le_refl _, Nat.zero_le _, .inl rfl⟩, fun i hi => absurd hi (Nat.not_lt_zero _)⟩
  · have hel : ∀ i, i < len → ∃ u : Int × Int, w.cell? (a.add (i * 2)) = some (.int .i64 u.1) ∧ w.cell? (a.add (i * 2 + 1)) = some (.int .i64 u.2) ∧ In64 u.1 ∧ In64 u.2 := fun i hil => by
      have h1 := hel i hil
      rw [List.getElem?_eq_getElem (by omega), cellsFrac] at h1
      obtain ⟨cs', hc, ht⟩ := Option.bind_eq_some_iff.1 h1
      obtain ⟨_, hcl, hat⟩ := World.cells?_some hc
      obtain ⟨c0, c1, rfl⟩ := list2 hcl
      obtain ⟨y0, y1, n', _, _, t0, t1⟩ := trod_struct2 Try.underlying34 ht
      rw [cellsI64] at t0 t1
      obtain ⟨k, e0, _, w0⟩ := DataW.trod_int Try.underlying2 t0
      obtain ⟨nn, e1, _, w1⟩ := DataW.trod_int Try.underlying2 t1
      simp at e0 e1
      subst e0 e1
      have a0 := hat 0 (by omega)
      have a1 := hat 1 (by omega)
      rw [Go.Deep.add_add] at a0 a1
      exact ⟨⟨k, nn⟩, a0, a1, In64.ofw w0, In64.ofw w1⟩
    obtain ⟨u, hu⟩ := choose_lt hel
    refine ⟨⟨some a, len, cap⟩, fun i => (u i).1, fun i => (u i).2, rfl, ⟨hl, hm, ?_⟩, fun i hi => (hu i hi).2.2⟩
    by_cases h0 : len = 0
    · exact .inl h0
    · obtain ⟨b, off, spot⟩ := a
      have hz := (hu 0 (by omega)).1
      obtain rfl := spot_none hz
      rw [addN] at hz
      exact .inr ⟨b, off, rfl, cell_lt hz, fun i hi => by obtain ⟨q1, q2, _⟩ := hu i hi; rw [addN] at q1 q2; exact ⟨q1, by rw [Nat.add_assoc]; exact q2⟩⟩
/-- A list of proofs among the cells. -/
def PfsA (w : World) (s : Sl) (l : List Pf) : Prop := l.length = s.len ∧ s.len ≤ s.cap ∧ s.cap ≤ maxLen ∧ (s.len = 0 ∨ ∃ b off, s.a = some ⟨b, off, none⟩ ∧ b < w.heap.size ∧ ∀ i, i < s.len → PfCells w b off i (l.getD i Pf.z)) ∧ ∀ i, i < s.len → PfA w (l.getD i Pf.z)
set_option maxRecDepth 100000 in
theorem open_pfs : ∀ (fuel : Nat) (cs : List Value) (x : DataW H × List MemPlace), DataW.trod enc Try.prog w base spare held fuel 46 cs = some x → ∃ (s : Sl) (l : List Pf), cs = [.slice s.a s.len s.cap] ∧ PfsA w s l := by
  intro fuel
  induction fuel using Nat.strongRecOn with
  | _ fuel ih =>
    intro cs x h
    rcases DataW.trod_slice Try.underlying46 h with ⟨rfl, _⟩ | ⟨a, len, cap, elems, rest, n, hn, rfl, rfl, hb, hl, hm, hlen, hel, _, _⟩
    · exact ⟨⟨none, 0, 0⟩, [], rfl, rfl, Nat.le_refl _, Nat.zero_le _, .inl rfl, fun i hi => absurd hi (Nat.not_lt_zero _)⟩
    · have hi : ∀ i, i < len → ∃ p : Pf, (w.cell? (a.add (i * 5)) = some (.int .i64 p.kind) ∧ w.cell? (a.add (i * 5 + 1)) = some (.slice p.mu.a p.mu.len p.mu.cap) ∧ w.cell? (a.add (i * 5 + 2)) = some (.int .i64 p.v) ∧ w.cell? (a.add (i * 5 + 3)) = some (.int .i64 p.bd) ∧ w.cell? (a.add (i * 5 + 4)) = some (.slice p.ks.a p.ks.len p.ks.cap)) ∧ PfA w p := fun i hil => by
        have h1 := hel i hil
        rw [List.getElem?_eq_getElem (by omega), cellsPf] at h1
        obtain ⟨cs', hc, ht⟩ := Option.bind_eq_some_iff.1 h1
        obtain ⟨_, hcl, hat⟩ := World.cells?_some hc
        obtain ⟨c0, c1, c2, c3, c4, y0, y1, y2, y3, y4, m, hnm, rfl, t0, t1, t2, t3, t4⟩ := trod_struct5 Try.underlying48 (by kernel_rfl) cellsPf ht
        obtain ⟨k0, e0, _, f0⟩ := DataW.trod_int Try.underlying3 t0
        obtain ⟨s1, g1, g2, e1, f1, f1'⟩ := frs_of t1
        obtain ⟨k2, e2, _, f2⟩ := DataW.trod_int Try.underlying3 t2
        obtain ⟨k3, e3, _, f3⟩ := DataW.trod_int Try.underlying2 t3
        obtain ⟨s4, l4, e4, q1, q2, q3, q4, q5⟩ := ih m (by omega) _ _ t4
        simp only [List.cons.injEq, and_true] at e0 e1 e2 e3 e4
        subst e0 e1 e2 e3 e4
        refine ⟨.mk k0 s1 g1 g2 k2 k3 s4 l4, ⟨?_, ?_, ?_, ?_, ?_⟩, .mk _ f1 f1' (In64.ofw f0) (In64.ofw f2) (In64.ofw f3) q1 q2 q3 q4 q5⟩
        · have := hat 0 (by omega); rw [Go.Deep.add_add] at this; exact this
        · have := hat 1 (by omega); rw [Go.Deep.add_add] at this; exact this
        · have := hat 2 (by omega); rw [Go.Deep.add_add] at this; exact this
        · have := hat 3 (by omega); rw [Go.Deep.add_add] at this; exact this
        · have := hat 4 (by omega); rw [Go.Deep.add_add] at this; exact this
      obtain ⟨u, hu⟩ := choose_lt hi
      have hg : ∀ i, i < len → ((List.range len).map u).getD i Pf.z = u i := fun i hi' => by simp [List.getD, hi']
      refine ⟨⟨some a, len, cap⟩, (List.range len).map u, rfl, by simp, hl, hm, ?_, fun i hi' => by rw [hg i hi']; exact (hu i hi').2⟩
      by_cases h0 : len = 0
      · exact .inl h0
      · obtain ⟨b, off, spot⟩ := a
        have hz := (hu 0 (by omega)).1.1
        have hspot : spot = none := by simpa [Addr.add] using World.cell?_spot hz
        subst hspot
        rw [addN] at hz
        refine .inr ⟨b, off, rfl, cell_lt hz, fun i hi' => ?_⟩
        rw [hg i hi']
        obtain ⟨h0, h1, h2, h3, h4⟩ := (hu i hi').1
        rw [addN] at h0 h1 h2 h3 h4
        exact ⟨h0, by rw [Nat.add_assoc]; exact h1, by rw [Nat.add_assoc]; exact h2, by rw [Nat.add_assoc]; exact h3, by rw [Nat.add_assoc]; exact h4⟩
set_option maxRecDepth 100000 in
theorem open_pf {r : Reach} {b0 : Nat} {v : Value} {d : DataW H} {p : List MemPlace} (hval : Value.okWide Try.prog w r b0 48 v) (h : DataW.Trod enc Try.prog w base spare held 48 v d p) :
    ∃ p : Pf, v = p.val ∧ PfA w p := by
  obtain ⟨cs, rfl, hsz⟩ := okWide_struct Try.underlying48 hval
  obtain ⟨fuel, hf⟩ := h
  obtain ⟨c0, c1, c2, c3, c4, y0, y1, y2, y3, y4, m, hnm, hcs, t0, t1, t2, t3, t4⟩ := trod_struct5 Try.underlying48 (by kernel_rfl) cellsPf hf
  obtain ⟨k0, e0, _, f0⟩ := DataW.trod_int Try.underlying3 t0
  obtain ⟨s1, g1, g2, e1, f1, f1'⟩ := frs_of t1
  obtain ⟨k2, e2, _, f2⟩ := DataW.trod_int Try.underlying3 t2
  obtain ⟨k3, e3, _, f3⟩ := DataW.trod_int Try.underlying2 t3
  obtain ⟨s4, l4, e4, q1, q2, q3, q4, q5⟩ := open_pfs _ _ _ t4
  simp only [List.cons.injEq, and_true] at e0 e1 e2 e3 e4
  subst e0 e1 e2 e3 e4
  refine ⟨.mk k0 s1 g1 g2 k2 k3 s4 l4, ?_, .mk _ f1 f1' (In64.ofw f0) (In64.ofw f2) (In64.ofw f3) q1 q2 q3 q4 q5⟩
  obtain ⟨l⟩ := cs
  simp [Value.cells] at hcs
  simp [hcs, Pf.val, Pf.kind, Pf.mu, Pf.v, Pf.bd, Pf.ks]
end
end Go.Proofs.Ytilhhbjdcdediaa
set_option linter.unusedVariables false
namespace Go.Proofs.Ytilhhbjdcdediaa
open Go Go.RowKit Go.Deep
theorem five_s {W : World} {b : Nat} {a0 a1 a2 a3 a4 : Value} {t : TypeId} (h : W.heap[b]? = some (.cells #[a0, a1, a2, a3, a4] t)) : b < W.heap.size ∧ W.cell? ⟨b, 0, none⟩ = some a0 ∧ W.cell? ⟨b, 1, none⟩ = some a1 ∧ W.cell? ⟨b, 2, none⟩ = some a2 ∧ W.cell? ⟨b, 3, none⟩ = some a3 ∧ W.cell? ⟨b, 4, none⟩ = some a4 := by
  refine ⟨(Array.getElem?_eq_some_iff.1 h).1, ?_, ?_, ?_, ?_, ?_⟩ <;> (rw [cell_of_row _ _ _ _ _ _ h]; rfl)
/-- No deeper than this, few Kids and multipliers. -/
def SmallP : Nat → Pf → Prop
  | 0, _ => False
  | n + 1, p => p.ks.len ≤ 3 ∧ p.mu.len ≤ 12 ∧ ∀ i, i < p.ks.len → SmallP n (p.kids.getD i Pf.z)
mutual
/-- The number of nodes. -/
def szP : Pf → Nat | .mk _ _ _ _ _ _ _ l => 1 + szL l
def szL : List Pf → Nat | [] => 0 | p :: l => szP p + szL l
end
mutual
/-- The number of nodes of the longest way. -/
def dpP : Pf → Nat | .mk _ _ _ _ _ _ _ l => 1 + dpL l
def dpL : List Pf → Nat | [] => 0 | p :: l => max (dpP p) (dpL l)
end
theorem sz_take : ∀ (l : List Pf) (k : Nat), k < l.length → szL (l.take (k + 1)) = szL (l.take k) + szP (l.getD k Pf.z)
  | [], k, h => by simp at h
  | p :: l, 0, _ => by simp [szL]
  | p :: l, k + 1, h => by
    have := sz_take l k (by simpa using h)
    simp only [List.take_succ_cons, szL, List.getD_cons_succ]
    rw [this]; omega
theorem sz_le : ∀ (l : List Pf) (k : Nat), szL (l.take k) ≤ szL l
  | [], k => by simp [szL]
  | p :: l, 0 => by simp [szL]
  | p :: l, k + 1 => by have := sz_le l k; simp only [List.take_succ_cons, szL]; omega
theorem sz_kid : ∀ (l : List Pf) (k : Nat), k < l.length → szP (l.getD k Pf.z) ≤ szL l
  | [], k, h => by simp at h
  | p :: l, 0, _ => by simp [szL]
  | p :: l, k + 1, h => by have := sz_kid l k (by simpa using h); simp only [szL, List.getD_cons_succ]; omega
theorem dp_take : ∀ (l : List Pf) (k : Nat), k < l.length → dpL (l.take (k + 1)) = max (dpL (l.take k)) (dpP (l.getD k Pf.z))
  | [], k, h => by simp at h
  | p :: l, 0, _ => by simp [dpL]
  | p :: l, k + 1, h => by
    have := dp_take l k (by simpa using h)
    simp only [List.take_succ_cons, dpL, List.getD_cons_succ]
    rw [this]; omega
theorem dp_kid : ∀ (l : List Pf) (k : Nat), k < l.length → dpP (l.getD k Pf.z) ≤ dpL l
  | [], k, h => by simp at h
  | p :: l, 0, _ => by simp [dpL]; omega
  | p :: l, k + 1, h => by have := dp_kid l k (by simpa using h); simp only [dpL, List.getD_cons_succ]; omega
theorem szL_le {n : Nat} : ∀ (l : List Pf), (∀ i, i < l.length → szP (l.getD i Pf.z) ≤ n) → szL l ≤ l.length * n
  | [], _ => by simp [szL]
  | p :: l, h => by
    have h0 := h 0 (by simp)
    have := szL_le l fun i hi => by have := h (i + 1) (by simpa using hi); simpa using this
    simp only [List.getD_cons_zero] at h0
    simp only [szL, List.length_cons, Nat.add_mul]
    omega
theorem dpL_le {n : Nat} : ∀ (l : List Pf), (∀ i, i < l.length → dpP (l.getD i Pf.z) ≤ n) → dpL l ≤ n
  | [], _ => by simp [dpL]
  | p :: l, h => by
    have h0 := h 0 (by simp)
    have := dpL_le l fun i hi => by have := h (i + 1) (by simpa using hi); simpa using this
    simp only [List.getD_cons_zero] at h0
    simp only [dpL]
    omega
/-- A small proof that lies there has few nodes. -/
theorem small_sz {w : World} : ∀ (n : Nat) (p : Pf), PfA w p → SmallP n p → szP p ≤ 4 ^ n ∧ dpP p ≤ n
  | 0, _, _, h => h.elim
  | n + 1, p, hp, h => by
    obtain ⟨h1, h2, h3⟩ := h
    have hl := hp.lens.1
    have k1 : ∀ i, i < p.kids.length → szP (p.kids.getD i Pf.z) ≤ 4 ^ n ∧ dpP (p.kids.getD i Pf.z) ≤ n := fun i hi => small_sz n _ (hp.kid (by omega)) (h3 i (by omega))
    have a1 := szL_le p.kids fun i hi => (k1 i hi).1
    have a2 := dpL_le p.kids fun i hi => (k1 i hi).2
    have e1 : szP p = 1 + szL p.kids := by cases p; rfl
    have e2 : dpP p = 1 + dpL p.kids := by cases p; rfl
    have hpos : 1 ≤ 4 ^ n := by have := Nat.pow_le_pow_left (show 1 ≤ 4 by decide) n; rwa [Nat.one_pow] at this
    have h5 : p.kids.length * 4 ^ n ≤ 3 * 4 ^ n := Nat.mul_le_mul_right _ (by omega)
    rw [Nat.pow_succ]
    constructor <;> omega
set_option maxHeartbeats 8000000 in
set_option maxRecDepth 20000 in
theorem rSize_calls : ∀ (p : Pf) (w : World), PfA w p → szP p ≤ 2 ^ 62 → Calls Try.prog 23 #[p.val] w fun e w' => e = .returned (.int .i64 (szP p : Nat)) ∧ Cls w w' := by
  intro p
  induction p using Pf.ind with
  | h p ih =>
  intro w h hs
  obtain ⟨pk, mu, mn, md, pv, pb, ks, l⟩ := p
  obtain ⟨ma, mlen, mcap⟩ := mu
  obtain ⟨ka, klen, kcap⟩ := ks
  have hl := h.lens
  have hf := h.frs.1
  have hce := h.cells
  simp only [Pf.mu, Pf.mn, Pf.md, Pf.ks, Pf.kids] at hl hf hce ih
  obtain ⟨hl1, hl2, hl3⟩ := hl
  have hf1 := hf.1
  have hf2 := hf.2.1
  simp only at hf1 hf2 hl1 hl2 hl3 hce
  unfold maxLen at hf2 hl3
  have HKD : Hid (∀ i, i < klen → PfA w (l.getD i Pf.z)) := Lib.hid fun i hi => h.kid hi
  have HCE := Lib.hid hce
  have HME : Hid (∀ i, i < klen → l.getD i Pf.z ∈ l) := Lib.hid fun i hi => pf_mem (by omega)
  simp only [Pf.val, Pf.kind, Pf.mu, Pf.v, Pf.bd, Pf.ks]
  clear hce hf
  have hs2 : 1 + szL l ≤ 2 ^ 62 := hs
  show Calls _ _ _ _ fun e w' => e = .returned (.int .i64 ((1 + szL l : Nat) : Int)) ∧ _
  have IH := Lib.hid ih
  clear ih hs h
  go_enter Try.func23, Try.ntmps23
  go_wp2_with fail
  go_loopw [3, 4] (fun v i wr => ∃ j : Nat, j ≤ klen ∧ i = .int .i64 j ∧ v = .int .i64 ((1 + szL (l.take j) : Nat) : Int) ∧ Cls (w.alloc (.cells #[.int .i64 pk, .slice ma mlen mcap, .int .i64 pv, .int .i64 pb, .slice ka klen kcap] 48)) wr) (fun _ i _ => klen - (intOf i).toNat)
  case atStart => exact ⟨0, Nat.zero_le _, rfl, by simp [szL], Cls.of (Below.refl _ _)⟩
  case round =>
    obtain ⟨j, hj, rfl, rfl, z, rfl⟩ := hrel
    have zs := z.size
    simp at zs
    by_cases hltj : j < klen
    · have hst := sz_take l j (by omega)
      have hst2 := sz_le l (j + 1)
      obtain ⟨b, off, ha, hlt, hc⟩ := HCE.out.resolve_left (by omega)
      subst ha
      have HWw : Below w.heap.size w z.val := z.on ((Below.refl _ _).alloc (Nat.le_refl _) _) (by simp)
      have hz.val := HWw.size
      obtain ⟨h0, h1, h2, h3, h4⟩ := hc j hltj
      have r0 := (HWw.cell (p := ⟨b, off + j * 5, none⟩) hlt).trans h0
      have r1 := (HWw.cell (p := ⟨b, off + j * 5 + 1, none⟩) hlt).trans h1
      have r2 := (HWw.cell (p := ⟨b, off + j * 5 + 2, none⟩) hlt).trans h2
      have r3 := (HWw.cell (p := ⟨b, off + j * 5 + 3, none⟩) hlt).trans h3
      have r4 := (HWw.cell (p := ⟨b, off + j * 5 + 4, none⟩) hlt).trans h4
      have hbw : b < z.val.heap.size := by omega
      obtain ⟨hx0, c0, c1, c2, c3, c4⟩ := five_s ((z.below.block w.heap.size (by simp)).trans (heap_alloc_new w _))
      have CK := Lib.hid (fun (W : World) (hb : Below w.heap.size w W) => IH.out (l.getD j Pf.z) (HME.out j hltj) W ((HKD.out j hltj).later hb) (by have := sz_kid l j (by omega); omega))
      unfold Pf.val at CK
      clear hc h0 h1 h2 h3 h4 HWw
      generalize (l.getD j Pf.z).kind = kk at *
      generalize (l.getD j Pf.z).mu = km at *
      generalize (l.getD j Pf.z).v = kv at *
      generalize (l.getD j Pf.z).bd = kb at *
      generalize (l.getD j Pf.z).ks = kks at *
      rw [hst] at hst2
      have hNX : Hid (((1 + szL (l.take j) : Nat) : Int) + ((szP (l.getD j Pf.z) : Nat) : Int) = ((1 + szL (l.take (j + 1)) : Nat) : Int)) := Lib.hid (by rw [hst]; omega)
      generalize szP (l.getD j Pf.z) = sj at *
      clear hst
      generalize hs2e : szL (l.take (j + 1)) = s2 at *
      have HS2 := Lib.hid hs2e
      clear hs2e
      generalize szL (l.take j) = s1 at *
      have hw : IntKind.i64.wrap (((1 + s1 : Nat) : Int) + ((sj : Nat) : Int)) = ((1 + s1 : Nat) : Int) + ((sj : Nat) : Int) := (by rw [IntKind.wrap_i64]; omega)
      go_wp2_with (go_at_call 23; (with_reducible refine Calls.mono (CK.out _ ?_) ?_); (focus (repeat first | with_reducible exact Below.refl _ _ | with_reducible refine Below.setCell ?_ (by first | omega | (simp; done) | (simp; omega)) _ | with_reducible refine Below.alloc ?_ (by first | omega | (simp; done) | (simp; omega)) _ | with_reducible refine Below.drew ?_ | with_reducible refine Ext.on _ ?_ (by first | omega | (simp; done) | (simp; omega)))); rintro e _ ⟨rfl, ⟨y1, rfl⟩⟩)
      go_roundw
      case rel => exact ⟨j + 1, by omega, by go_num, by rw [HS2.out, ← hNX.out]; simp, Cls.of (by repeat first | with_reducible exact Below.refl _ _ | with_reducible refine Below.setCell ?_ (by first | omega | (simp; done) | (simp; omega)) _ | with_reducible refine Below.alloc ?_ (by first | omega | (simp; done) | (simp; omega)) _ | with_reducible refine Below.drew ?_ | with_reducible refine Ext.on _ ?_ (by first | omega | (simp; done) | (simp; omega)))⟩
      case measure => simp [intOf]; omega
    · obtain rfl : j = klen := by omega
      have e1 : l.take j = l := by rw [← hl1]; exact List.take_length
      obtain ⟨hx0, c0, c1, c2, c3, c4⟩ := five_s ((z.below.block w.heap.size (by simp)).trans (heap_alloc_new w _))
      rw [e1]
      go_wp2_with fail
      go_ret
      refine ⟨rfl, Cls.of ?_⟩
      repeat first | with_reducible exact Below.refl _ _ | with_reducible refine Below.setCell ?_ (by first | omega | (simp; done) | (simp; omega)) _ | with_reducible refine Below.alloc ?_ (by first | omega | (simp; done) | (simp; omega)) _ | with_reducible refine Below.drew ?_ | with_reducible refine Ext.on _ ?_ (by first | omega | (simp; done) | (simp; omega))
set_option maxHeartbeats 8000000 in
set_option maxRecDepth 20000 in
theorem rdepth_calls : ∀ (p : Pf) (w : World), PfA w p → dpP p ≤ 2 ^ 62 → Calls Try.prog 51 #[p.val] w fun e w' => e = .returned (.int .i64 (dpP p : Nat)) ∧ Cls w w' := by
  intro p
  induction p using Pf.ind with
  | h p ih =>
  intro w h hs
  obtain ⟨pk, mu, mn, md, pv, pb, ks, l⟩ := p
  obtain ⟨ma, mlen, mcap⟩ := mu
  obtain ⟨ka, klen, kcap⟩ := ks
  have hl := h.lens
  have hf := h.frs.1
  have hce := h.cells
  simp only [Pf.mu, Pf.mn, Pf.md, Pf.ks, Pf.kids] at hl hf hce ih
  obtain ⟨hl1, hl2, hl3⟩ := hl
  have hf1 := hf.1
  have hf2 := hf.2.1
  simp only at hf1 hf2 hl1 hl2 hl3 hce
  unfold maxLen at hf2 hl3
  have HKD : Hid (∀ i, i < klen → PfA w (l.getD i Pf.z)) := Lib.hid fun i hi => h.kid hi
  have HCE := Lib.hid hce
  have HME : Hid (∀ i, i < klen → l.getD i Pf.z ∈ l) := Lib.hid fun i hi => pf_mem (by omega)
  simp only [Pf.val, Pf.kind, Pf.mu, Pf.v, Pf.bd, Pf.ks]
  clear hce hf
  have hs2 : 1 + dpL l ≤ 2 ^ 62 := hs
  show Calls _ _ _ _ fun e w' => e = .returned (.int .i64 ((1 + dpL l : Nat) : Int)) ∧ _
  have IH := Lib.hid ih
  clear ih hs h
  go_enter Try.func51, Try.ntmps51
  go_wp2_with fail
  go_loopw [3, 4] (fun v i wr => ∃ j : Nat, j ≤ klen ∧ i = .int .i64 j ∧ v = .int .i64 ((dpL (l.take j) : Nat) : Int) ∧ Cls (w.alloc (.cells #[.int .i64 pk, .slice ma mlen mcap, .int .i64 pv, .int .i64 pb, .slice ka klen kcap] 48)) wr) (fun _ i _ => klen - (intOf i).toNat)
  case atStart => exact ⟨0, Nat.zero_le _, rfl, by simp [dpL], Cls.of (Below.refl _ _)⟩
  case round =>
    obtain ⟨j, hj, rfl, rfl, z, rfl⟩ := hrel
    have zs := z.size
    simp at zs
    by_cases hltj : j < klen
    · have hst := dp_take l j (by omega)
      obtain ⟨b, off, ha, hlt, hc⟩ := HCE.out.resolve_left (by omega)
      subst ha
      have HWw : Below w.heap.size w z.val := z.on ((Below.refl _ _).alloc (Nat.le_refl _) _) (by simp)
      have hz.val := HWw.size
      obtain ⟨h0, h1, h2, h3, h4⟩ := hc j hltj
      have r0 := (HWw.cell (p := ⟨b, off + j * 5, none⟩) hlt).trans h0
      have r1 := (HWw.cell (p := ⟨b, off + j * 5 + 1, none⟩) hlt).trans h1
      have r2 := (HWw.cell (p := ⟨b, off + j * 5 + 2, none⟩) hlt).trans h2
      have r3 := (HWw.cell (p := ⟨b, off + j * 5 + 3, none⟩) hlt).trans h3
      have r4 := (HWw.cell (p := ⟨b, off + j * 5 + 4, none⟩) hlt).trans h4
      have hbw : b < z.val.heap.size := by omega
      obtain ⟨hx0, c0, c1, c2, c3, c4⟩ := five_s ((z.below.block w.heap.size (by simp)).trans (heap_alloc_new w _))
      have CK := Lib.hid (fun (W : World) (hb : Below w.heap.size w W) => IH.out (l.getD j Pf.z) (HME.out j hltj) W ((HKD.out j hltj).later hb) (by have := dp_kid l j (by omega); omega))
      unfold Pf.val at CK
      clear hc h0 h1 h2 h3 h4 HWw
      generalize (l.getD j Pf.z).kind = kk at *
      generalize (l.getD j Pf.z).mu = km at *
      generalize (l.getD j Pf.z).v = kv at *
      generalize (l.getD j Pf.z).bd = kb at *
      generalize (l.getD j Pf.z).ks = kks at *
      have HNX : Hid (((dpL (l.take (j + 1)) : Nat) : Int) = if dpL (l.take j) < dpP (l.getD j Pf.z) then ((dpP (l.getD j Pf.z) : Nat) : Int) else ((dpL (l.take j) : Nat) : Int)) := Lib.hid (by rw [hst]; split <;> omega)
      generalize dpP (l.getD j Pf.z) = sj at *
      clear hst
      generalize dpL (l.take j) = s1 at *
      go_wp2_with (go_at_call 51; (with_reducible refine Calls.mono (CK.out _ ?_) ?_); (focus (repeat first | with_reducible exact Below.refl _ _ | with_reducible refine Below.setCell ?_ (by first | omega | (simp; done) | (simp; omega)) _ | with_reducible refine Below.alloc ?_ (by first | omega | (simp; done) | (simp; omega)) _ | with_reducible refine Below.drew ?_ | with_reducible refine Ext.on _ ?_ (by first | omega | (simp; done) | (simp; omega)))); rintro e _ ⟨rfl, ⟨y1, rfl⟩⟩)
      go_roundw
      case rel => exact ⟨j + 1, by omega, by go_num, by rw [HNX.out], Cls.of (by repeat first | with_reducible exact Below.refl _ _ | with_reducible refine Below.setCell ?_ (by first | omega | (simp; done) | (simp; omega)) _ | with_reducible refine Below.alloc ?_ (by first | omega | (simp; done) | (simp; omega)) _ | with_reducible refine Below.drew ?_ | with_reducible refine Ext.on _ ?_ (by first | omega | (simp; done) | (simp; omega)))⟩
      case measure => simp [intOf]; omega
    · obtain rfl : j = klen := by omega
      have e1 : l.take j = l := by rw [← hl1]; exact List.take_length
      rw [e1]
      obtain ⟨hx0, c0, c1, c2, c3, c4⟩ := five_s ((z.below.block w.heap.size (by simp)).trans (heap_alloc_new w _))
      have hw : IntKind.i64.wrap (((dpL l : Nat) : Int) + 1) = ((dpL l : Nat) : Int) + 1 := (by rw [IntKind.wrap_i64]; omega)
      have HQ : Hid (((1 + dpL l : Nat) : Int) = ((dpL l : Nat) : Int) + 1) := Lib.hid (by omega)
      go_wp2_with fail
      go_ret
      refine ⟨ret_int HQ.out.symm, Cls.of ?_⟩
      repeat first | with_reducible exact Below.refl _ _ | with_reducible refine Below.setCell ?_ (by first | omega | (simp; done) | (simp; omega)) _ | with_reducible refine Below.alloc ?_ (by first | omega | (simp; done) | (simp; omega)) _ | with_reducible refine Below.drew ?_ | with_reducible refine Ext.on _ ?_ (by first | omega | (simp; done) | (simp; omega))
set_option maxHeartbeats 8000000 in
set_option maxRecDepth 20000 in
theorem few_calls : ∀ (n : Nat) (p : Pf) (d : Nat) (w : World), d + n = 31 → PfA w p → Calls Try.prog 46 #[p.val, .int .i64 (d : Nat)] w fun e w' => ∃ b, e = .returned (.bool b) ∧ (b = true → SmallP n p) ∧ Cls w w' := by
  intro n
  induction n with
  | zero =>
    intro p d w hd h
    have d1 : decide ((30 : Int) < ((d : Nat) : Int)) = true := decide_eq_true (by omega)
    unfold Pf.val
    clear h
    generalize p.kind = pk at *
    generalize p.mu = mu at *
    generalize p.v = pv at *
    generalize p.bd = pb at *
    generalize p.ks = ks at *
    go_enter Try.func46, Try.ntmps46
    go_wp2_with fail
    go_ret
    refine ⟨false, rfl, (fun h => by cases h), Cls.of ?_⟩
    repeat first | with_reducible exact Below.refl _ _ | with_reducible refine Below.setCell ?_ (by first | omega | (simp; done) | (simp; omega)) _ | with_reducible refine Below.alloc ?_ (by first | omega | (simp; done) | (simp; omega)) _ | with_reducible refine Below.drew ?_ | with_reducible refine Ext.on _ ?_ (by first | omega | (simp; done) | (simp; omega))
  | succ n ih =>
    intro p d w hd h
    obtain ⟨pk, mu, mn, md, pv, pb, ks, l⟩ := p
    obtain ⟨ma, mlen, mcap⟩ := mu
    obtain ⟨ka, klen, kcap⟩ := ks
    have hl := h.lens
    have hf := h.frs.1
    have hce := h.cells
    simp only [Pf.mu, Pf.mn, Pf.md, Pf.ks, Pf.kids] at hl hf hce
    obtain ⟨hl1, hl2, hl3⟩ := hl
    have hf1 := hf.1
    have hf2 := hf.2.1
    simp only at hf1 hf2 hl1 hl2 hl3 hce
    unfold maxLen at hf2 hl3
    have HKD : Hid (∀ i, i < klen → PfA w (l.getD i Pf.z)) := Lib.hid fun i hi => h.kid hi
    have HCE := Lib.hid hce
    have HME : Hid (∀ i, i < klen → l.getD i Pf.z ∈ l) := Lib.hid fun i hi => pf_mem (by omega)
    simp only [Pf.val, Pf.kind, Pf.mu, Pf.v, Pf.bd, Pf.ks]
    clear hce hf
    have IH := Lib.hid ih
    clear ih h
    have d1 : decide ((30 : Int) < ((d : Nat) : Int)) = false := decide_eq_false (by omega)
    have hwd : IntKind.i64.wrap ((d : Int) + 1) = (d : Int) + 1 := (by rw [IntKind.wrap_i64]; omega)
    by_cases h3 : klen ≤ 3
    case neg =>
      have d2 : decide ((3 : Int) < ((klen : Nat) : Int)) = true := decide_eq_true (by omega)
      obtain ⟨hx0, c0, c1, c2, c3, c4⟩ := five_s (heap_alloc_new w (.cells #[.int .i64 pk, .slice ma mlen mcap, .int .i64 pv, .int .i64 pb, .slice ka klen kcap] 48))
      go_enter Try.func46, Try.ntmps46
      go_wp2_with fail
      go_ret
      refine ⟨false, rfl, (fun h => by cases h), Cls.of ?_⟩
      repeat first | with_reducible exact Below.refl _ _ | with_reducible refine Below.setCell ?_ (by first | omega | (simp; done) | (simp; omega)) _ | with_reducible refine Below.alloc ?_ (by first | omega | (simp; done) | (simp; omega)) _ | with_reducible refine Below.drew ?_ | with_reducible refine Ext.on _ ?_ (by first | omega | (simp; done) | (simp; omega))
    case pos =>
      have d2 : decide ((3 : Int) < ((klen : Nat) : Int)) = false := decide_eq_false (by omega)
      by_cases h12 : mlen ≤ 12
      case neg =>
        have d3 : decide ((12 : Int) < ((mlen : Nat) : Int)) = true := decide_eq_true (by omega)
        go_enter Try.func46, Try.ntmps46
        go_wp2_with fail
        go_ret
        refine ⟨false, rfl, (fun h => by cases h), Cls.of ?_⟩
        repeat first | with_reducible exact Below.refl _ _ | with_reducible refine Below.setCell ?_ (by first | omega | (simp; done) | (simp; omega)) _ | with_reducible refine Below.alloc ?_ (by first | omega | (simp; done) | (simp; omega)) _ | with_reducible refine Below.drew ?_ | with_reducible refine Ext.on _ ?_ (by first | omega | (simp; done) | (simp; omega))
      case pos =>
        have d3 : decide ((12 : Int) < ((mlen : Nat) : Int)) = false := decide_eq_false (by omega)
        have HSP : Hid ((∀ i, i < klen → SmallP n (l.getD i Pf.z)) → SmallP (n + 1) (.mk pk ⟨ma, mlen, mcap⟩ mn md pv pb ⟨ka, klen, kcap⟩ l)) := Lib.hid fun hh => ⟨h3, h12, hh⟩
        go_enter Try.func46, Try.ntmps46
        go_wp2_with fail
        go_loopw [5] (fun i wr => ∃ j : Nat, j ≤ klen ∧ i = .int .i64 j ∧ Hid (∀ i, i < j → SmallP n (l.getD i Pf.z)) ∧ Cls (w.alloc (.cells #[.int .i64 pk, .slice ma mlen mcap, .int .i64 pv, .int .i64 pb, .slice ka klen kcap] 48)) wr) (fun i _ => klen - (intOf i).toNat)
        case atStart => exact ⟨0, Nat.zero_le _, rfl, Lib.hid (fun i hi => absurd hi (Nat.not_lt_zero _)), Cls.of (Below.refl _ _)⟩
        case round =>
          obtain ⟨j, hj, rfl, HT, z, rfl⟩ := hrel
          have zs := z.size
          simp at zs
          by_cases hltj : j < klen
          · 
            obtain ⟨b, off, ha, hlt, hc⟩ := HCE.out.resolve_left (by omega)
            subst ha
            have HWw : Below w.heap.size w z.val := z.on ((Below.refl _ _).alloc (Nat.le_refl _) _) (by simp)
            have hz.val := HWw.size
            obtain ⟨h0, h1, h2, h3, h4⟩ := hc j hltj
            have r0 := (HWw.cell (p := ⟨b, off + j * 5, none⟩) hlt).trans h0
            have r1 := (HWw.cell (p := ⟨b, off + j * 5 + 1, none⟩) hlt).trans h1
            have r2 := (HWw.cell (p := ⟨b, off + j * 5 + 2, none⟩) hlt).trans h2
            have r3 := (HWw.cell (p := ⟨b, off + j * 5 + 3, none⟩) hlt).trans h3
            have r4 := (HWw.cell (p := ⟨b, off + j * 5 + 4, none⟩) hlt).trans h4
            have hbw : b < z.val.heap.size := by omega
            obtain ⟨hx0, c0, c1, c2, c3, c4⟩ := five_s ((z.below.block w.heap.size (by simp)).trans (heap_alloc_new w _))
            have CK := Lib.hid (fun (W : World) (hb : Below w.heap.size w W) => IH.out (l.getD j Pf.z) (d + 1) W (by omega) ((HKD.out j hltj).later hb))
            unfold Pf.val at CK
            clear hc h0 h1 h2 h3 h4 HWw
            generalize (l.getD j Pf.z).kind = kk at *
            generalize (l.getD j Pf.z).mu = km at *
            generalize (l.getD j Pf.z).v = kv at *
            generalize (l.getD j Pf.z).bd = kb at *
            generalize (l.getD j Pf.z).ks = kks at *
            rw [show (((d + 1 : Nat)) : Int) = (d : Int) + 1 by omega] at CK
            generalize hdi : (d : Int) + 1 = dI at *
            go_wp2_with (go_at_call 46; (with_reducible refine Calls.mono (CK.out _ ?_) ?_); (focus (repeat first | with_reducible exact Below.refl _ _ | with_reducible refine Below.setCell ?_ (by first | omega | (simp; done) | (simp; omega)) _ | with_reducible refine Below.alloc ?_ (by first | omega | (simp; done) | (simp; omega)) _ | with_reducible refine Below.drew ?_ | with_reducible refine Ext.on _ ?_ (by first | omega | (simp; done) | (simp; omega)))); rintro e _ ⟨fb, rfl, hfb, ⟨y1, rfl⟩⟩; have HFB := Lib.hid hfb; clear hfb)
            · go_ret
              refine ⟨false, rfl, (fun h => by cases h), Cls.of ?_⟩
              repeat first | with_reducible exact Below.refl _ _ | with_reducible refine Below.setCell ?_ (by first | omega | (simp; done) | (simp; omega)) _ | with_reducible refine Below.alloc ?_ (by first | omega | (simp; done) | (simp; omega)) _ | with_reducible refine Below.drew ?_ | with_reducible refine Ext.on _ ?_ (by first | omega | (simp; done) | (simp; omega))
            · go_roundw
              case rel => exact ⟨j + 1, by omega, by go_num, Lib.hid (fun i hi => by
                rcases Nat.lt_or_ge i j with h' | h'
                · exact HT.out i h'
                · obtain rfl : i = j := by omega
                  exact HFB.out (by simp_all)), Cls.of (by repeat first | with_reducible exact Below.refl _ _ | with_reducible refine Below.setCell ?_ (by first | omega | (simp; done) | (simp; omega)) _ | with_reducible refine Below.alloc ?_ (by first | omega | (simp; done) | (simp; omega)) _ | with_reducible refine Below.drew ?_ | with_reducible refine Ext.on _ ?_ (by first | omega | (simp; done) | (simp; omega)))⟩
              case measure => simp [intOf]; omega
          · obtain rfl : j = klen := by omega
            obtain ⟨hx0, c0, c1, c2, c3, c4⟩ := five_s ((z.below.block w.heap.size (by simp)).trans (heap_alloc_new w _))
            go_wp2_with fail
            go_ret
            refine ⟨true, rfl, fun _ => HSP.out HT.out, Cls.of ?_⟩
            repeat first | with_reducible exact Below.refl _ _ | with_reducible refine Below.setCell ?_ (by first | omega | (simp; done) | (simp; omega)) _ | with_reducible refine Below.alloc ?_ (by first | omega | (simp; done) | (simp; omega)) _ | with_reducible refine Below.drew ?_ | with_reducible refine Ext.on _ ?_ (by first | omega | (simp; done) | (simp; omega))
end Go.Proofs.Ytilhhbjdcdediaa
set_option linter.unusedVariables false
namespace Go.Proofs.Ytilhhbjdcdediaa
open Go Go.RowKit Go.Deep
/-- A later world in which all blocks but T are as they were. -/
structure Wo (T : Nat) (w w' : World) : Prop where
  os : w'.os = w.os
  tape : w'.tape = w.tape
  output : w'.output = w.output
  size : w.heap.size ≤ w'.heap.size
  block : ∀ k, k < w.heap.size → k ≠ T → w'.heap[k]? = w.heap[k]?
namespace Wo
theorem refl (T : Nat) (w : World) : Wo T w w := ⟨rfl, rfl, rfl, Nat.le_refl _, fun _ _ _ => rfl⟩
theorem trans {T : Nat} {a b c : World} (h : Wo T a b) (k : Wo T b c) : Wo T a c :=
  ⟨k.os.trans h.os, k.tape.trans h.tape, k.output.trans h.output, Nat.le_trans h.size k.size, fun i hi hT => (k.block i (Nat.lt_of_lt_of_le hi h.size) hT).trans (h.block i hi hT)⟩
theorem ofBelow {T : Nat} {w w' : World} (h : Below w.heap.size w w') : Wo T w w' := ⟨h.os, h.tape, h.output, h.size, fun k hk _ => h.block k hk⟩
theorem ext {T : Nat} {w0 w : World} (h : Wo T w0 w) (x : Ext w) : Wo T w0 x.val := h.trans (ofBelow x.below)
theorem drew {T : Nat} {w0 w : World} (h : Wo T w0 w) : Wo T w0 w.drew := h.trans (ofBelow (Below.refl _ _).drew)
theorem alloc {T : Nat} {w0 w : World} (h : Wo T w0 w) (o : Obj) : Wo T w0 (w.alloc o) := h.trans (ofBelow ((Below.refl _ _).alloc (Nat.le_refl _) o))
theorem setCell {T : Nat} {w0 w : World} (h : Wo T w0 w) {p : Addr} (hp : w0.heap.size ≤ p.block ∨ p.block = T) (u : Value) : Wo T w0 (w.setCell p u) :=
  ⟨h.os, h.tape, h.output, by simpa [World.setCell] using h.size, fun k hk hT => (Below.heap_setCell _ _ _ _ (by rcases hp with hp | hp <;> omega)).trans (h.block k hk hT)⟩
theorem toBelow {T B : Nat} {w w' : World} (h : Wo T w w') (hB : B ≤ w.heap.size) (hT : B ≤ T) : Below B w w' := ⟨h.os, h.tape, h.output, h.size, fun k hk => h.block k (by omega) (by omega)⟩
end Wo
mutual
/-- How far is counted: no further once there are more than m. -/
def cnP (m : Nat) : Nat → Pf → Nat | n, .mk _ _ _ _ _ _ _ l => cnL m (n + 1) l
def cnL (m : Nat) : Nat → List Pf → Nat | n, [] => n | n, p :: l => if n ≤ m then cnL m (cnP m n p) l else n
end
mutual
theorem cnP_of (m : Nat) : ∀ (n : Nat) (p : Pf), (n + szP p ≤ m → cnP m n p = n + szP p) ∧ (m < n + szP p → m < cnP m n p) ∧ cnP m n p ≤ n + szP p ∧ n + 1 ≤ cnP m n p
  | n, .mk _ _ _ _ _ _ _ l => by
    obtain ⟨h1, h2, h3, h4⟩ := cnL_of m (n + 1) l
    simp only [cnP, szP]
    refine ⟨fun h => ?_, fun h => h2 (by omega), by omega, by omega⟩
    have := h1 (by omega)
    omega
theorem cnL_of (m : Nat) : ∀ (n : Nat) (l : List Pf), (n + szL l ≤ m → cnL m n l = n + szL l) ∧ (m < n + szL l → m < cnL m n l) ∧ cnL m n l ≤ n + szL l ∧ n ≤ cnL m n l
  | n, [] => by simp [cnL, szL]
  | n, p :: l => by
    obtain ⟨h1, h2, h3, h4⟩ := cnP_of m n p
    obtain ⟨g1, g2, g3, g4⟩ := cnL_of m (cnP m n p) l
    have hp : 1 ≤ szP p := by cases p; simp [szP]
    simp only [cnL, szL]
    by_cases hn : n ≤ m
    · rw [if_pos hn]
      refine ⟨fun h => ?_, fun h => ?_, by omega, by omega⟩
      · have e := h1 (by omega)
        rw [e] at g1 ⊢
        have := g1 (by omega)
        omega
      · by_cases hh : n + szP p ≤ m
        · have e := h1 hh
          exact g2 (by omega)
        · have := h2 (by omega)
          omega
    · rw [if_neg hn]
      exact ⟨fun h => by omega, fun h => by omega, by omega, by omega⟩
end
/-- What is left of the list is counted. -/
theorem cn_drop (m n : Nat) (l : List Pf) {k : Nat} (h : k < l.length) : cnL m n (l.drop k) = if n ≤ m then cnL m (cnP m n (l.getD k Pf.z)) (l.drop (k + 1)) else n := by
  rw [List.drop_eq_getElem_cons h]
  simp only [cnL]
  simp [List.getD, h]
def IntP (w : World) (N : Nat) (n : Int) : Prop := w.heap[N]? = some (.cells #[.int .i64 n] 3)
theorem one_n {W : World} {b : Nat} {a0 : Value} {t : TypeId} (h : W.heap[b]? = some (.cells #[a0] t)) : b < W.heap.size ∧ W.frozen? ⟨b, 0, none⟩ = false ∧ W.cell? ⟨b, 0, none⟩ = some a0 := by
  refine ⟨(Array.getElem?_eq_some_iff.1 h).1, by simp [World.frozen?, h], ?_⟩
  rw [cell_of_row _ _ _ _ _ _ h]; rfl
set_option maxHeartbeats 8000000 in
set_option maxRecDepth 20000 in
theorem walk_calls : ∀ (p : Pf) (w0 : World), PfA w0 p → ∀ (w : World) (N M X n m : Nat), Below w0.heap.size w0 w → w0.heap.size ≤ N → w0.heap.size ≤ M → w0.heap.size ≤ X → M ≠ N → X ≠ N → IntP w N n → IntP w M m → w.heap[X]? = some (.cells #[.func (.func 77) #[] #[.pointer (some ⟨N, 0, none⟩), .pointer (some ⟨M, 0, none⟩), .pointer (some ⟨X, 0, none⟩)]] 108) → n + szP p ≤ 2 ^ 62 →
    Calls Try.prog 77 #[p.val, .pointer (some ⟨N, 0, none⟩), .pointer (some ⟨M, 0, none⟩), .pointer (some ⟨X, 0, none⟩)] w fun e w' => e = .returned (.tuple #[]) ∧ IntP w' N (cnP m n p : Nat) ∧ Wo N w w' := by
  intro p
  induction p using Pf.ind with
  | h p ih =>
  intro w0 h w N M X n m hb hN hM hX hMN hXN hn hm hf hs
  obtain ⟨pk, mu, mn, md, pv, pb, ks, l⟩ := p
  obtain ⟨ma, mlen, mcap⟩ := mu
  obtain ⟨ka, klen, kcap⟩ := ks
  have hl := h.lens
  have hf := h.frs.1
  have hce := h.cells
  simp only [Pf.mu, Pf.mn, Pf.md, Pf.ks, Pf.kids] at hl hf hce ih
  obtain ⟨hl1, hl2, hl3⟩ := hl
  have hf1 := hf.1
  have hf2 := hf.2.1
  simp only at hf1 hf2 hl1 hl2 hl3 hce
  unfold maxLen at hf2 hl3
  have HKD : Hid (∀ i, i < klen → PfA w0 (l.getD i Pf.z)) := Lib.hid fun i hi => h.kid hi
  have HCE := Lib.hid hce
  have HME : Hid (∀ i, i < klen → l.getD i Pf.z ∈ l) := Lib.hid fun i hi => pf_mem (by omega)
  simp only [Pf.val, Pf.kind, Pf.mu, Pf.v, Pf.bd, Pf.ks]
  clear hce hf
  have hs2 : n + (1 + szL l) ≤ 2 ^ 62 := hs
  obtain ⟨hNl, fN, cN⟩ := one_n hn
  obtain ⟨hMl, _, cM⟩ := one_n hm
  obtain ⟨hXl, _, cX⟩ := one_n hf
  go_enter Try.func77, Try.ntmps77
  have hw1 : IntKind.i64.wrap ((n : Int) + 1) = (n : Int) + 1 := (by rw [IntKind.wrap_i64]; omega)
  have IH := Lib.hid ih
  have HF := Lib.hid hf
  have HM := Lib.hid hm
  have HB := Lib.hid hb
  have H1 : Hid (IntP ((w.setCell ⟨N, 0, none⟩ (.int .i64 ((n : Int) + 1))).alloc (.cells #[.int .i64 pk, .slice ma mlen mcap, .int .i64 pv, .int .i64 pb, .slice ka klen kcap] 48)) N ((n + 1 : Nat) : Int)) := Lib.hid (by
    have := heap_setCell_same w N 0 _ _ (.int .i64 ((n : Int) + 1)) hn
    unfold IntP
    rw [Below.heap_alloc _ _ _ (by simpa using hNl), this]; simp)
  have H2 : Hid (Wo N (w.alloc (.cells #[.int .i64 pk, .slice ma mlen mcap, .int .i64 pv, .int .i64 pb, .slice ka klen kcap] 48)) ((w.setCell ⟨N, 0, none⟩ (.int .i64 ((n : Int) + 1))).alloc (.cells #[.int .i64 pk, .slice ma mlen mcap, .int .i64 pv, .int .i64 pb, .slice ka klen kcap] 48))) := Lib.hid ⟨rfl, rfl, rfl, by simp, fun k hk hT => by
    simp at hk
    by_cases hk2 : k < w.heap.size
    · rw [Below.heap_alloc _ _ _ (by simpa using hk2), Below.heap_alloc _ _ _ hk2, heap_setCell_other _ _ _ _ hT]
    · obtain rfl : k = w.heap.size := by omega
      have := heap_alloc_new (w.setCell ⟨N, 0, none⟩ (.int .i64 ((n : Int) + 1))) (.cells #[.int .i64 pk, .slice ma mlen mcap, .int .i64 pv, .int .i64 pb, .slice ka klen kcap] 48)
      rw [heap_alloc_new w]
      simpa using this⟩
  clear ih h hs hf hm hb hn
  go_wp2_with fail
  go_loopw [5] (fun i wr => ∃ j q : Nat, j ≤ klen ∧ i = .int .i64 j ∧ Hid (IntP wr N q) ∧ Hid (cnL m q (l.drop j) = cnL m (n + 1) l) ∧ Hid (q + szL (l.drop j) ≤ n + 1 + szL l) ∧ Hid (Wo N (w.alloc (.cells #[.int .i64 pk, .slice ma mlen mcap, .int .i64 pv, .int .i64 pb, .slice ka klen kcap] 48)) wr)) (fun i _ => klen - (intOf i).toNat)
  case atStart => exact ⟨0, n + 1, Nat.zero_le _, rfl, H1, Lib.hid rfl, Lib.hid (Nat.le_refl _), H2⟩
  case round =>
    obtain ⟨j, q, hj, rfl, HN, HE, HQ, HW⟩ := hrel
    have hws := HW.out.size
    simp at hws
    obtain ⟨hNl2, fN2, cN2⟩ := one_n HN.out
    have hM2 : IntP wr M m := (HW.out.block M (by simp; omega) hMN).trans ((Below.heap_alloc _ _ _ hMl).trans HM.out)
    have hX2 := (HW.out.block X (by simp; omega) hXN).trans ((Below.heap_alloc _ _ _ hXl).trans HF.out)
    obtain ⟨_, _, cM2⟩ := one_n hM2
    obtain ⟨_, _, cX2⟩ := one_n hX2
    have HM2 := Lib.hid hM2
    have HX2 := Lib.hid hX2
    have HBX : Hid (wr.heap[w.heap.size]? = some (.cells #[.int .i64 pk, .slice ma mlen mcap, .int .i64 pv, .int .i64 pb, .slice ka klen kcap] 48)) := Lib.hid ((HW.out.block w.heap.size (by simp) (by omega)).trans (heap_alloc_new w _))
    have HWW : Hid (Wo N w wr) := Lib.hid (((Wo.refl _ _).alloc _).trans HW.out)
    have HB0 : Hid (Below w0.heap.size w0 wr) := Lib.hid (HB.out.trans (HWW.out.toBelow HB.out.size hN))
    clear hM2 hX2 HM HF
    have hq0 := HQ.out
    by_cases hltj : j < klen
    · by_cases hqm : q ≤ m
      · have d2 : decide (((q : Nat) : Int) ≤ ((m : Nat) : Int)) = true := decide_eq_true (by omega)
        have hcd := cn_drop m q l (k := j) (by omega)
        rw [if_pos hqm] at hcd
        have hsd : szL (l.drop j) = szP (l.getD j Pf.z) + szL (l.drop (j + 1)) := by
          rw [List.drop_eq_getElem_cons (by omega : j < l.length)]
          simp [szL, List.getD, show j < l.length by omega]
        have hcc := (cnP_of m q (l.getD j Pf.z)).2.2.1
        have HNX : Hid (cnL m (cnP m q (l.getD j Pf.z)) (l.drop (j + 1)) = cnL m (n + 1) l) := Lib.hid (by rw [← hcd]; exact HE.out)
        have HQX : Hid (cnP m q (l.getD j Pf.z) + szL (l.drop (j + 1)) ≤ n + 1 + szL l) := Lib.hid (by omega)
        have hsq : q + szP (l.getD j Pf.z) ≤ 2 ^ 62 := by omega
        clear hcd hsd hcc hq0
        obtain ⟨b, off, ha, hlt, hc⟩ := HCE.out.resolve_left (by omega)
        subst ha
        have HWw : Below w0.heap.size w0 wr := HB0.out
        have hwr := HWw.size
        obtain ⟨h0, h1, h2, h3, h4⟩ := hc j hltj
        have r0 := (HWw.cell (p := ⟨b, off + j * 5, none⟩) hlt).trans h0
        have r1 := (HWw.cell (p := ⟨b, off + j * 5 + 1, none⟩) hlt).trans h1
        have r2 := (HWw.cell (p := ⟨b, off + j * 5 + 2, none⟩) hlt).trans h2
        have r3 := (HWw.cell (p := ⟨b, off + j * 5 + 3, none⟩) hlt).trans h3
        have r4 := (HWw.cell (p := ⟨b, off + j * 5 + 4, none⟩) hlt).trans h4
        have hbw : b < wr.heap.size := by omega
        obtain ⟨hx0, c0, c1, c2, c3, c4⟩ := five_s (HBX.out)
        have CK := Lib.hid (fun (W : World) (x1 : Ext wr) (hW : W = x1.val) => IH.out (l.getD j Pf.z) (HME.out j hltj) w0 (HKD.out j hltj) x1.val N M X q m (x1.on HB0.out HB0.out.size) hN hM hX hMN hXN ((x1.below.block _ hNl2).trans HN.out) ((x1.below.block _ (by omega)).trans HM2.out) ((x1.below.block _ (by omega)).trans HX2.out) hsq)
        unfold Pf.val at CK
        clear hc h0 h1 h2 h3 h4 HWw
        generalize (l.getD j Pf.z).kind = kk at *
        generalize (l.getD j Pf.z).mu = km at *
        generalize (l.getD j Pf.z).v = kv at *
        generalize (l.getD j Pf.z).bd = kb at *
        generalize (l.getD j Pf.z).ks = kks at *
        generalize cnP m q (l.getD j Pf.z) = q2 at *
        go_wp2_with fail
        refine wp_region_lin (by kernel_rfl) (by kernel_rfl) ?_
        intro y0
        have y0s := y0.size
        repeat (refine lin_calm rfl ?_; intro KK hKK; go_big_quiet_step (fail); refine wpQuiet_nil ?_; refine hKK _ ?_; clear hKK KK)
        refine lin_free rfl ?_
        intro KK hKK
        go_wp2_with (go_at_call 77; (with_reducible refine Calls.mono (CK.out _ y0 rfl) ?_); rintro e W2 ⟨rfl, hn3, hw3⟩)
        refine hKK _ _ (by first | exact .inl rfl | exact .inl trivial) ?_
        clear hKK KK
        refine lin_nil ?_
        go_wp2_with fail
        go_roundw
        case rel => exact ⟨j + 1, q2, by omega, by go_num, Lib.hid hn3, HNX, HQX, Lib.hid ((HW.out.ext y0).trans hw3)⟩
        case measure => simp [intOf]; omega
      · have d2 : decide (((q : Nat) : Int) ≤ ((m : Nat) : Int)) = false := decide_eq_false (by omega)
        have hcd := cn_drop m q l (k := j) (by omega)
        rw [if_neg hqm] at hcd
        have HV : Hid (q = cnL m (n + 1) l) := Lib.hid (by rw [← HE.out, hcd])
        obtain ⟨hx0, c0, c1, c2, c3, c4⟩ := five_s HBX.out
        clear hcd
        go_wp2_with fail
        refine bodyPost_end (v := .tuple #[]) (by simp [results, Try.results77, go_sem]) rfl ⟨rfl, ?_, HWW.out⟩
        show IntP wr N ((cnL m (n + 1) l : Nat) : Int)
        rw [← HV.out]; exact HN.out
    · obtain rfl : j = klen := by omega
      obtain ⟨hx0, c0, c1, c2, c3, c4⟩ := five_s HBX.out
      have HV : Hid (q = cnL m (n + 1) l) := Lib.hid (by rw [← HE.out, List.drop_of_length_le (by omega)]; rfl)
      go_wp2_with fail
      refine bodyPost_end (v := .tuple #[]) (by simp [results, Try.results77, go_sem]) rfl ⟨rfl, ?_, HWW.out⟩
      show IntP wr N ((cnL m (n + 1) l : Nat) : Int)
      rw [← HV.out]; exact HN.out
theorem four_at (w : World) (o1 o2 o3 o4 : Obj) : ((((w.alloc o1).alloc o2).alloc o3).alloc o4).heap[w.heap.size + 1]? = some o2 ∧ ((((w.alloc o1).alloc o2).alloc o3).alloc o4).heap[w.heap.size + 1 + 1]? = some o3 ∧ ((((w.alloc o1).alloc o2).alloc o3).alloc o4).heap[w.heap.size + 1 + 1 + 1]? = some o4 := by
  refine ⟨?_, ?_, ?_⟩
  · rw [Below.heap_alloc _ _ _ (by simp), Below.heap_alloc _ _ _ (by simp)]
    have := heap_alloc_new (w.alloc o1) o2
    simpa using this
  · rw [Below.heap_alloc _ _ _ (by simp)]
    have := heap_alloc_new ((w.alloc o1).alloc o2) o3
    simpa using this
  · have := heap_alloc_new (((w.alloc o1).alloc o2).alloc o3) o4
    simpa using this
@[go_sem] theorem run_store_func {P : Program} {w : World} {a : Addr} {m : Mode} (f : Fn) (x y : Array Value) : (store a (.func f x y) m).run P w = stored P w a (.func f x y) m := run_store P w a _ m rfl
set_option maxHeartbeats 8000000 in
set_option maxRecDepth 20000 in
theorem count_calls (p : Pf) (m : Nat) (w : World) (h : PfA w p) (hs : szP p ≤ 2 ^ 61) : Calls Try.prog 47 #[p.val, .int .i64 (m : Nat)] w fun e w' => e = .returned (.int .i64 (cnP m 0 p : Nat)) ∧ Cls w w' := by
  have CW := Lib.hid (walk_calls p w h)
  have HCN := Lib.hid (cnP_of m 0 p).2.2.1
  unfold Pf.val at *
  clear h
  generalize p.kind = pk at *
  generalize p.mu = mu at *
  generalize p.v = pv at *
  generalize p.bd = pb at *
  generalize p.ks = ks at *
  go_enter Try.func47, Try.ntmps47
  go_wp2_with (go_at_call 77; obtain ⟨a1, a2, a3⟩ := four_at w (.cells #[.int .i64 pk, .slice mu.a mu.len mu.cap, .int .i64 pv, .int .i64 pb, .slice ks.a ks.len ks.cap] 48) (.cells #[.int .i64 (m : Int)] 3) (.cells #[.int .i64 0] 3) (.cells #[.func (.func 77) #[] #[.pointer (some ⟨w.heap.size + 1 + 1, 0, none⟩), .pointer (some ⟨w.heap.size + 1, 0, none⟩), .pointer (some ⟨w.heap.size + 1 + 1 + 1, 0, none⟩)]] 108); (with_reducible refine Calls.mono (CW.out _ (w.heap.size + 1 + 1) (w.heap.size + 1) (w.heap.size + 1 + 1 + 1) 0 m ?_ (by omega) (by omega) (by omega) (by omega) (by omega) ?_ ?_ ?_ (by omega)) ?_); (focus (repeat first | with_reducible exact Below.refl _ _ | with_reducible refine Below.setCell ?_ (by first | omega | (simp; done) | (simp; omega)) _ | with_reducible refine Below.alloc ?_ (by first | omega | (simp; done) | (simp; omega)) _ | with_reducible refine Below.drew ?_ | with_reducible refine Ext.on _ ?_ (by first | omega | (simp; done) | (simp; omega)))); (focus (unfold IntP; exact a2)); (focus (exact a1)); (focus (exact a3)); rintro e W2 ⟨rfl, hn3, hw3⟩; have hw3s := hw3.size; simp at hw3s; obtain ⟨hNl, _, cN⟩ := one_n hn3; have HW3 := Lib.hid hw3; clear a1 a2 a3 hw3 hn3)
  go_ret
  refine ⟨rfl, Cls.of ?_⟩
  refine Below.trans ?_ (HW3.out.toBelow (by simp; omega) (by omega))
  repeat first | with_reducible exact Below.refl _ _ | with_reducible refine Below.setCell ?_ (by first | omega | (simp; done) | (simp; omega)) _ | with_reducible refine Below.alloc ?_ (by first | omega | (simp; done) | (simp; omega)) _ | with_reducible refine Below.drew ?_ | with_reducible refine Ext.on _ ?_ (by first | omega | (simp; done) | (simp; omega))
set_option maxHeartbeats 8000000 in
set_option maxRecDepth 20000 in
theorem iSize_calls (p : Pf) (w : World) (h : PfA w p) (hs : szP p ≤ 2 ^ 61) : Calls Try.prog 22 #[p.val] w fun e w' => e = .returned (.int .i64 (szP p : Nat)) ∧ Cls w w' := by
  have C1 := Lib.hid (fun (W : World) (hb : Below w.heap.size w W) => count_calls p 9223372036854775807 W (h.later hb) hs)
  have e : cnP 9223372036854775807 0 p = szP p := by have := (cnP_of 9223372036854775807 0 p).1 (by omega); omega
  rw [e] at C1
  unfold Pf.val at *
  clear h e
  generalize szP p = sp at *
  generalize p.kind = pk at *
  generalize p.mu = mu at *
  generalize p.v = pv at *
  generalize p.bd = pb at *
  generalize p.ks = ks at *
  go_enter Try.func22, Try.ntmps22
  go_wp2_with (go_at_call 47; (with_reducible refine Calls.mono (C1.out _ ?_) ?_); (focus (repeat first | with_reducible exact Below.refl _ _ | with_reducible refine Below.setCell ?_ (by first | omega | (simp; done) | (simp; omega)) _ | with_reducible refine Below.alloc ?_ (by first | omega | (simp; done) | (simp; omega)) _ | with_reducible refine Below.drew ?_ | with_reducible refine Ext.on _ ?_ (by first | omega | (simp; done) | (simp; omega)))); rintro e _ ⟨rfl, ⟨x, rfl⟩⟩)
  go_ret
  refine ⟨rfl, Cls.of ?_⟩
  repeat first | with_reducible exact Below.refl _ _ | with_reducible refine Below.setCell ?_ (by first | omega | (simp; done) | (simp; omega)) _ | with_reducible refine Below.alloc ?_ (by first | omega | (simp; done) | (simp; omega)) _ | with_reducible refine Below.drew ?_ | with_reducible refine Ext.on _ ?_ (by first | omega | (simp; done) | (simp; omega))
end Go.Proofs.Ytilhhbjdcdediaa
