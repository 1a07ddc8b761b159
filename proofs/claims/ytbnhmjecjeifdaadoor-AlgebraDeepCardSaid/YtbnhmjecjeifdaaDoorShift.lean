/-
  Rows of expressions that a call makes, and the program's Shift: for all expressions whose lists are short, a new tree with the columns shifted.
-/
import Derived.Test.YtbnhmjecjeifdaaDoorTree
import Derived.Maps.AppendAt
import Derived.OwnWalk
import Derived.Laws.Entries
import Derived.BigQuiet
set_option linter.unusedVariables false
namespace Go.Proofs.YtbnhmjecjeifdaaDoor
open Go Go.RowKit

/-- An expression with the slice of its Kids. -/
structure Rec where
  e : Ex
  a : Option Addr
  len : Nat
  cap : Nat
def Rec.z : Rec := ⟨Ex.z, none, 0, 0⟩
def Rec.cells (r : Rec) : List Value := [.int .i64 r.e.op, .int .i64 r.e.ty, .int .i64 r.e.num, .string r.e.text, .int .i64 r.e.col, .slice r.a r.len r.cap]
def flatR : List Rec → List Value
  | [] => []
  | r :: l => r.cells ++ flatR l
theorem flatR_length (l : List Rec) : (flatR l).length = l.length * 6 := by
  induction l with
  | nil => rfl
  | cons r l ih => simp [flatR, Rec.cells, ih]; omega
theorem flatR_append (l m : List Rec) : flatR (l ++ m) = flatR l ++ flatR m := by
  induction l with
  | nil => rfl
  | cons r l ih => simp [flatR, ih]
theorem flatR_one (l : List Rec) : ∀ u ∈ flatR l, u.oneCell' = true := by
  induction l with
  | nil => intro u h; simp [flatR] at h
  | cons r l ih =>
    intro u h
    simp only [flatR, Rec.cells, List.mem_append, List.mem_cons, List.not_mem_nil, or_false] at h
    rcases h with (rfl | rfl | rfl | rfl | rfl | rfl) | h
    any_goals rfl
    exact ih u h
theorem flatR_at (l : List Rec) : ∀ i, i < l.length → (flatR l)[i * 6]? = some (.int .i64 (l.getD i Rec.z).e.op) ∧ (flatR l)[i * 6 + 1]? = some (.int .i64 (l.getD i Rec.z).e.ty) ∧ (flatR l)[i * 6 + 2]? = some (.int .i64 (l.getD i Rec.z).e.num) ∧
    (flatR l)[i * 6 + 3]? = some (.string (l.getD i Rec.z).e.text) ∧ (flatR l)[i * 6 + 4]? = some (.int .i64 (l.getD i Rec.z).e.col) ∧ (flatR l)[i * 6 + 5]? = some (.slice (l.getD i Rec.z).a (l.getD i Rec.z).len (l.getD i Rec.z).cap) := by
  induction l with
  | nil => intro i h; simp at h
  | cons r l ih =>
    intro i h
    cases i with
    | zero => simp [flatR, Rec.cells]
    | succ i =>
      have h2 := ih i (by simpa using h)
      rw [show (i + 1) * 6 = i * 6 + 6 by omega]
      simpa [flatR, Rec.cells, List.getD] using h2
/-- A row of the call's own that holds these expressions; their Kids lie beside it. -/
def RowOf (w : World) (base : Nat) (v : Value) (rs : List Rec) : Prop :=
  w.ownsRow base 24 6 v rs.length (flatR rs) ∧ ∀ r ∈ rs, r.e.fine ∧ Kids w (fun b => base ≤ b ∧ v.ownBlock ≠ some b) r.a r.len r.cap r.e.kids
theorem own_later {w w' : World} {base size n : Nat} {e : TypeId} {v : Value} {xs : List Value} (h : w.ownsRow base e size v n xs) (hb : Below w.heap.size w w') : w'.ownsRow base e size v n xs := by
  refine ⟨h.1, h.2.imp id ?_⟩
  rintro ⟨g, cap, cur, hv, hg, hh, rest⟩
  exact ⟨g, cap, cur, hv, hg, (hb.block g (Array.getElem?_eq_some_iff.1 hh).1).trans hh, rest⟩
theorem RowOf.nil (w : World) (base : Nat) : RowOf w base (.slice none 0 0) [] := ⟨World.ownsRow_nil w base _ 6, fun r h => by simp at h⟩
theorem RowOf.push {w w1 w3 : World} {base : Nat} {v v' : Value} {rs : List Rec} {r : Rec} {o : Obj} (h : RowOf w base v rs) (hbase : base ≤ w.heap.size) (hb : Below w.heap.size w w1) (hf : r.e.fine) (hk : Kids w1 (fun b => w.heap.size ≤ b) r.a r.len r.cap r.e.kids)
    (hown : w3.ownsRow base 24 6 v' (rs.length + 1) (flatR rs ++ r.cells)) (hg : (w1.alloc o).grownBy w3 v.ownBlock) (hat : v'.ownBlock = v.ownBlock ∨ v'.ownBlock = some (w1.alloc o).heap.size) : RowOf w3 base v' (rs ++ [r]) := by
  have hlt := h.1.lt
  have hs1 := hb.size
  have hs2 : (w1.alloc o).heap.size = w1.heap.size + 1 := by simp
  have hs3 := hg.size
  have hblk : ∀ b, b < w1.heap.size → v.ownBlock ≠ some b → v'.ownBlock ≠ some b ∧ w3.heap[b]? = w1.heap[b]? := fun b hlt' hne => by
    refine ⟨?_, (hg.block b (by omega) (fun e => hne e.symm)).trans (Below.heap_alloc _ _ _ hlt')⟩
    rcases hat with e | e <;> rw [e]
    · exact hne
    · rw [hs2]; intro e; injection e; omega
  refine ⟨?_, fun q hq => ?_⟩
  · rw [List.length_append, flatR_append]
    simpa [flatR] using hown
  · rcases List.mem_append.1 hq with hq | hq
    · obtain ⟨f, hk0⟩ := h.2 q hq
      refine ⟨f, hk0.carry (by omega) fun b hlt' ⟨hb1, hb2⟩ => ?_⟩
      obtain ⟨g1, g2⟩ := hblk b (by omega) hb2
      exact ⟨⟨hb1, g1⟩, g2.trans (hb.block b hlt')⟩
    · obtain rfl : q = r := by simpa using hq
      refine ⟨hf, hk.carry (by omega) fun b hlt' hb1 => ?_⟩
      obtain ⟨g1, g2⟩ := hblk b hlt' (fun e => by have := hlt b e; omega)
      exact ⟨⟨by omega, g1⟩, g2⟩
theorem RowOf.later {w w' : World} {base : Nat} {v : Value} {rs : List Rec} (h : RowOf w base v rs) (hb : Below w.heap.size w w') : RowOf w' base v rs := ⟨own_later h.1 hb, fun r hr => ⟨(h.2 r hr).1, (h.2 r hr).2.later hb⟩⟩
theorem RowOf.kids {w : World} {base : Nat} {v : Value} {rs : List Rec} (h : RowOf w base v rs) : ∃ a cap, v = .slice a rs.length cap ∧ Kids w (fun b => base ≤ b) a rs.length cap (rs.map Rec.e) := by
  have hr : ∀ i, i < rs.length → rs.getD i Rec.z ∈ rs := fun i hi => by simp [List.getD, hi]
  have he : ∀ i, i < rs.length → (rs.map Rec.e).getD i Ex.z = (rs.getD i Rec.z).e := fun i hi => by simp [List.getD, hi]
  have hin : ∀ i, i < rs.length → (rs.getD i Rec.z).e.fine ∧ Kids w (fun b => base ≤ b) (rs.getD i Rec.z).a (rs.getD i Rec.z).len (rs.getD i Rec.z).cap (rs.getD i Rec.z).e.kids := fun i hi => by
    obtain ⟨f, hk⟩ := h.2 _ (hr i hi)
    exact ⟨f, hk.carry (Nat.le_refl _) fun b _ ⟨h1, _⟩ => ⟨h1, rfl⟩⟩
  rcases h.1.2 with ⟨rfl, h0⟩ | ⟨g, cap, cur, rfl, hb, hh, hn, hc, hs, ht⟩
  · have : rs = [] := List.eq_nil_of_length_eq_zero h0
    subst this
    exact ⟨none, 0, rfl, .none⟩
  · refine ⟨some ⟨g, 0, none⟩, cap, rfl, .mk _ _ _ _ (fun i => (rs.getD i Rec.z).a) (fun i => (rs.getD i Rec.z).len) (fun i => (rs.getD i Rec.z).cap) (by simp) hn hc (fun h => by cases h) (fun i hi => ?_) (fun i hi => by rw [he i hi]; exact (hin i hi).1) (fun i hi => by rw [he i hi]; exact (hin i hi).2)⟩
    rw [he i hi]
    have hcell := World.ownsRow.cells h.1 (g := g) rfl
    have hadd : ∀ j, (⟨g, 0, none⟩ : Addr).add j = ⟨g, 0 + j, none⟩ := fun j => by unfold Addr.add; split <;> simp_all
    obtain ⟨f0, f1, f2, f3, f4, f5⟩ := flatR_at rs i hi
    have c0 := hcell _ _ f0
    have c1 := hcell _ _ f1
    have c2 := hcell _ _ f2
    have c3 := hcell _ _ f3
    have c4 := hcell _ _ f4
    have c5 := hcell _ _ f5
    rw [hadd] at c0 c1 c2 c3 c4 c5
    exact ⟨g, 0, rfl, (Array.getElem?_eq_some_iff.1 hh).1, hb, c0, c1, c2, c3, c4, c5⟩
theorem Kids.set {w : World} {ok : Nat → Prop} {a : Option Addr} {len cap : Nat} {l : List Ex} (h : Kids w ok a len cap l) {p : Addr} {u : Value} (hp : ∀ b, ok b → b ≠ p.block) : Kids (w.setCell p u) ok a len cap l :=
  h.carry (by simp [World.setCell]) fun b _ hok => ⟨hok, Below.heap_setCell _ _ _ _ (hp b hok)⟩

mutual
def shiftE : Ex → Int → Ex
  | .mk o t n s c l, d => .mk o t n s (if o = 5 then wrap64 (c + d) else c) (shiftL l d)
def shiftL : List Ex → Int → List Ex
  | [], _ => []
  | k :: r, d => shiftE k d :: shiftL r d
end
theorem shiftL_map (l : List Ex) (d : Int) : shiftL l d = l.map (shiftE · d) := by
  induction l with
  | nil => rw [shiftL]; rfl
  | cons k r ih => rw [shiftL, ih]; rfl
theorem shiftE_kids (e : Ex) (d : Int) : (shiftE e d).kids = e.kids.map (shiftE · d) := by
  cases e; simp only [shiftE, Ex.kids, shiftL_map]
theorem shiftE_op (e : Ex) (d : Int) : (shiftE e d).op = e.op := by cases e; unfold shiftE; rfl
theorem shiftE_ty (e : Ex) (d : Int) : (shiftE e d).ty = e.ty := by cases e; unfold shiftE; rfl
theorem shiftE_num (e : Ex) (d : Int) : (shiftE e d).num = e.num := by cases e; unfold shiftE; rfl
theorem shiftE_text (e : Ex) (d : Int) : (shiftE e d).text = e.text := by cases e; unfold shiftE; rfl
theorem shiftE_col (e : Ex) (d : Int) : (shiftE e d).col = if e.op = 5 then wrap64 (e.col + d) else e.col := by cases e; unfold shiftE; rfl
/-- Every list of Kids in it is short. -/
inductive Slim : Ex → Prop
  | mk (e : Ex) (h : e.kids.length ≤ 12) (hk : ∀ k ∈ e.kids, Slim k) : Slim e
theorem Slim.le {e : Ex} (h : Slim e) : e.kids.length ≤ 12 := by cases h; assumption
theorem Slim.kid {e : Ex} (h : Slim e) : ∀ k ∈ e.kids, Slim k := by cases h; assumption
def ShiftIs (e : Ex) (d : Int) (len : Nat) (w : World) (r : Ending) (w' : World) : Prop :=
  ∃ a' cap', r = .returned (.agg #[.int .i64 (shiftE e d).op, .int .i64 (shiftE e d).ty, .int .i64 (shiftE e d).num, .string (shiftE e d).text, .int .i64 (shiftE e d).col, .slice a' len cap']) ∧ Kids w' (fun b => w.heap.size ≤ b) a' len cap' (shiftE e d).kids ∧ Cls w w'
theorem wrap64_bounds (x : Int) : IntKind.i64.min ≤ wrap64 x ∧ wrap64 x ≤ IntKind.i64.max := by
  have h1 : IntKind.i64.min = -9223372036854775808 := by decide
  have h2 : IntKind.i64.max = 9223372036854775807 := by decide
  rw [h1, h2]
  unfold wrap64
  omega
theorem wf_wrap (x : Int) : (Lit.int .i64 (wrap64 x)).wf = true := by
  have h := wrap64_bounds x
  simp only [Lit.wf, Bool.and_eq_true, decide_eq_true_eq]
  exact ⟨h.1, h.2⟩
theorem shiftE_fine {e : Ex} (d : Int) (h : e.fine) : (shiftE e d).fine := by
  obtain ⟨h0, h1, h2, h3, h4⟩ := h
  refine ⟨by rw [shiftE_op]; exact h0, by rw [shiftE_ty]; exact h1, by rw [shiftE_num]; exact h2, by rw [shiftE_text]; exact h3, ?_⟩
  rw [shiftE_col]
  split
  · exact wf_wrap _
  · exact h4
theorem take_map {l : List Ex} {j : Nat} (d : Int) (h : j < l.length) : (l.take (j + 1)).map (shiftE · d) = (l.take j).map (shiftE · d) ++ [shiftE (l.getD j Ex.z) d] := by
  rw [List.take_succ_eq_append_getElem h, List.map_append]
  simp [List.getD, h]
theorem Rec.one (r : Rec) : ∀ u ∈ r.cells, u.oneCell' = true := fun u h => flatR_one [r] u (by simpa [flatR] using h)
theorem cells_new (w : World) (l : List Value) (t : TypeId) : ∀ j u, l[j]? = some u → (w.alloc (.cells l.toArray t)).cell? ((⟨w.heap.size, 0, none⟩ : Addr).add j) = some u := by
  intro j u h
  have hadd : (⟨w.heap.size, 0, none⟩ : Addr).add j = ⟨w.heap.size, j, none⟩ := by unfold Addr.add; split <;> simp_all
  rw [hadd, cell_of_row _ _ _ l.toArray t (0, 0) (heap_alloc_new w _)]
  simpa using h
theorem infoEx : (Tryd.prog.info? 24).map (fun i => (i.zero, i.size, i.bytes)) = some (some (.agg #[.int .i64 0, .int .i64 0, .int .i64 0, .string ⟨#[]⟩, .int .i64 0, .slice none 0 0]), 6, 72) := by kernel_rfl

end Go.Proofs.YtbnhmjecjeifdaaDoor
