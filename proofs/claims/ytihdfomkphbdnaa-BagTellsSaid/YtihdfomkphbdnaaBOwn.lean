/-
  Rows gathered in a list of the call's own, each a copy of its own; tallies read.
-/
import Derived.Test.YtihdfomkphbdnaaBTal2
set_option linter.unusedVariables false
namespace Go.Proofs.Ytihdfomkphbdnaa
open Go Go.RowKit
theorem Rw.Ok.lt {w : World} {r : Rw} (h : r.Ok w) : r.len = 0 ∨ ∃ x, r.a = some x ∧ x.block < w.heap.size := by
  rcases h.holds.2 with h0 | ⟨b, off, ha, hb, _⟩
  · exact .inl h0
  · exact .inr ⟨_, ha, hb⟩
/-- The row lies in another block than g. -/
def Rw.Off (r : Rw) (g : Nat) : Prop := r.len = 0 ∨ ∃ x, r.a = some x ∧ x.block ≠ g
theorem Rw.Ok.grown {w w' : World} {row : Option Nat} {r : Rw} (h : r.Ok w) (hg : w.grownBy w' row) (ho : ∀ g, row = some g → r.Off g) : r.Ok w' := by
  refine ⟨⟨h.holds.1, ?_⟩, h.le, h.cap, h.small⟩
  rcases h.holds.2 with h0 | ⟨b, off, ha, hb, hc⟩
  · exact .inl h0
  · by_cases h0 : r.len = 0
    · exact .inl h0
    · have hne : some b ≠ row := by
        intro e
        rcases ho b e.symm with h1 | ⟨x, hx, hx2⟩
        · exact h0 h1
        · rw [ha] at hx
          obtain rfl := Option.some.inj hx
          exact hx2 rfl
      refine .inr ⟨b, off, ha, Nat.lt_of_lt_of_le hb hg.size, fun i hi => ?_⟩
      have hcell : ∀ o, w'.cell? ⟨b, o, none⟩ = w.cell? ⟨b, o, none⟩ := fun o => World.cell?_of_block (hg.block b hb hne)
      rw [hcell, hcell, hcell]
      exact hc i hi
/-- Rows in a list of one's own. -/
def RowsOwn (w : World) (base : Nat) (v : Value) (R : List Rw) : Prop := w.ownsRow base 24 1 v R.length (flatR R) ∧ ∀ r ∈ R, r.Ok w ∧ ∀ g, v.ownBlock = some g → r.Off g
theorem RowsOwn.start (w : World) (base : Nat) : RowsOwn w base (.slice none 0 0) [] := ⟨World.ownsRow_nil _ _ _ _, fun r hr => by cases hr⟩
theorem RowsOwn.later {w w' : World} {base : Nat} {v : Value} {R : List Rw} (h : RowsOwn w base v R) (hb : Below w.heap.size w w') : RowsOwn w' base v R := ⟨own_later' h.1 hb, fun r hr => ⟨(h.2 r hr).1.later hb, (h.2 r hr).2⟩⟩
theorem RowsOwn.snoc {w W w1 : World} {base : Nat} {v v1 : Value} {R : List Rw} {r' : Rw} (h : RowsOwn w base v R) (hW : Below w.heap.size w W) (hr' : r'.Ok W) (hf : ∀ x, r'.a = some x → w.heap.size ≤ x.block)
    (ho : w1.ownsRow base 24 1 v1 (R.length + 1) (flatR R ++ [r'.enc])) (hg : W.grownBy w1 v.ownBlock) (hat : v1.ownBlock = v.ownBlock ∨ v1.ownBlock = some W.heap.size) : RowsOwn w1 base v1 (R ++ [r']) := by
  have hlt : ∀ g, v.ownBlock = some g → g < w.heap.size := fun g hg => (h.1.lt g hg).2
  have off' : ∀ g, v.ownBlock = some g → r'.Off g := fun g hg => by
    rcases hr'.lt with h0 | ⟨x, hx, _⟩
    · exact .inl h0
    · exact .inr ⟨x, hx, by have := hf x hx; have := hlt g hg; omega⟩
  have new : ∀ {r : Rw}, r.Ok W → r.Off W.heap.size := fun {r} h => by
    rcases h.lt with h0 | ⟨x, hx, hl⟩
    · exact .inl h0
    · exact .inr ⟨x, hx, by omega⟩
  refine ⟨by rw [List.length_append]; simpa [flatR] using ho, fun r hr => ?_⟩
  rcases List.mem_append.1 hr with hr | hr
  · obtain ⟨h1, h2⟩ := h.2 r hr
    have h1' := h1.later hW
    refine ⟨h1'.grown hg h2, fun g hg' => ?_⟩
    rcases hat with e | e
    · exact h2 g (e ▸ hg')
    · rw [e] at hg'
      obtain rfl := Option.some.inj hg'
      exact new h1'
  · obtain rfl := List.mem_singleton.1 hr
    refine ⟨hr'.grown hg off', fun g hg' => ?_⟩
    rcases hat with e | e
    · exact off' g (e ▸ hg')
    · rw [e] at hg'
      obtain rfl := Option.some.inj hg'
      exact new hr'
theorem RowsOwn.rws {w : World} {base : Nat} {v : Value} {R : List Rw} (h : RowsOwn w base v R) : ∃ a c, v = .slice a R.length c ∧ R.length ≤ c ∧ c ≤ maxLen ∧ Rws w a R.length R := Rws.own h.1 (fun r hr => (h.2 r hr).1)
/-- The tallies, read. -/
theorem TalsOwn.read {w0 w : World} {base : Nat} {v : Value} {T : List Tr} (h : TalsOwn w0 w base v T) : ∃ a c, v = .slice a T.length c ∧ T.length ≤ c ∧ c ≤ maxLen ∧ (T.length = 0 ∨ ∃ b, a = some ⟨b, 0, none⟩ ∧ b < w.heap.size ∧ ∀ i, i < T.length →
    w.cell? ⟨b, i * 3, none⟩ = some (T.getD i default).row.enc ∧ w.cell? ⟨b, i * 3 + 1, none⟩ = some (.int .i64 (T.getD i default).m) ∧ w.cell? ⟨b, i * 3 + 2, none⟩ = some (.int .i64 (T.getD i default).n)) := by
  rcases h.1.2 with ⟨rfl, h0⟩ | ⟨g, cap, cur, rfl, hb, hh, hn, hc, hs, ht⟩
  · exact ⟨none, 0, by rw [h0], by omega, Nat.zero_le _, .inl h0⟩
  · refine ⟨some ⟨g, 0, none⟩, cap, rfl, hn, hc, .inr ⟨g, rfl, (Array.getElem?_eq_some_iff.1 hh).1, fun i hi => ?_⟩⟩
    have hcell := World.ownsRow.cells h.1 (g := g) rfl
    obtain ⟨f0, f1, f2⟩ := flatT_at T i hi
    have c0 := hcell _ _ f0
    have c1 := hcell _ _ f1
    have c2 := hcell _ _ f2
    rw [add_none, Nat.zero_add] at c0 c1 c2
    exact ⟨c0, c1, c2⟩
theorem TalsOwn.get {w0 w : World} {base : Nat} {v : Value} {T : List Tr} (h : TalsOwn w0 w base v T) (i : Nat) : (T.getD i default).row.Ok w0 := by
  by_cases hi : i < T.length
  · have : T.getD i default = T[i] := by simp [List.getD, hi]
    rw [this]; exact h.2 _ (List.getElem_mem hi)
  · have : T.getD i default = default := by simp [List.getD, Nat.le_of_not_lt hi]
    rw [this]; exact Rw.Ok.nil w0
theorem comb_append (f : Nat → Nat → Nat) (T S : List Tl) : comb f (T ++ S) = comb f T ++ comb f S := by simp [comb]
theorem comb_succ (f : Nat → Nat → Nat) (T : List Tr) {j : Nat} (h : j < T.length) : comb f ((T.take (j + 1)).map Tr.tl) = comb f ((T.take j).map Tr.tl) ++ List.replicate (f (T.getD j default).m (T.getD j default).n) (T.getD j default).row.vs := by
  have e : T.take (j + 1) = T.take j ++ [T.getD j default] := by
    rw [List.take_succ_eq_append_getElem h]
    congr 2
    simp [List.getD, h]
  rw [e, List.map_append, comb_append]
  simp [comb, Tr.tl]
theorem comb_take_le (f : Nat → Nat → Nat) (T : List Tr) (j : Nat) : (comb f ((T.take j).map Tr.tl)).length ≤ (comb f (T.map Tr.tl)).length := by
  conv => rhs; rw [← List.take_append_drop j T]
  rw [List.map_append, comb_append, List.length_append]
  omega
theorem replicate_snoc {α : Type} (k : Nat) (x : α) : List.replicate (k + 1) x = List.replicate k x ++ [x] := by rw [List.replicate_succ']
theorem getD_mem {α : Type} [Inhabited α] {T : List α} {i : Nat} (hi : i < T.length) : T.getD i default ∈ T := by
  have : T.getD i default = T[i] := by simp [List.getD, hi]
  rw [this]; exact List.getElem_mem hi
theorem TalOf.bound {A B : List Row} {T : List Tr} (h : TalOf A B (T.map Tr.tl)) (i : Nat) (hi : i < T.length) : (T.getD i default).m ≤ A.length ∧ (T.getD i default).n ≤ B.length := by
  obtain ⟨e1, e2⟩ := h.2.1 _ (List.mem_map_of_mem (f := Tr.tl) (getD_mem hi))
  have h1 := List.count_le_length (a := (T.getD i default).tl.r) (l := A)
  have h2 := List.count_le_length (a := (T.getD i default).tl.r) (l := B)
  rw [← e1] at h1
  rw [← e2] at h2
  exact ⟨h1, h2⟩
theorem RowsOwn.mono {w : World} {base base' : Nat} {v : Value} {R : List Rw} (h : RowsOwn w base v R) (hb : base' ≤ base) : RowsOwn w base' v R := by
  refine ⟨⟨h.1.1, h.1.2.imp id ?_⟩, h.2⟩
  rintro ⟨g, cap, cur, hv, hg, rest⟩
  exact ⟨g, cap, cur, hv, Nat.le_trans hb hg, rest⟩
end Go.Proofs.Ytihdfomkphbdnaa
