/-
  A schema that was made, one of whose fields is changed: what lies in memory.
-/
import Derived.Test.YtpddkljedhghkaaDoorJ34
import Derived.Test.YtpddkljedhghkaaDoorJ40
set_option linter.unusedVariables false
namespace Go.Proofs.YtpddkljedhghkaaDoor
open Go Go.RowKit Go.Deep
theorem numIn_sl {w : World} {s : Sl} {l : List Int} (hl : l.length = s.len) (h : SlAt w 1 s (intC fun i => l.getD i 0)) : NumIn w s.a s.len s.cap l := by
  refine ⟨hl, h.1, h.2.1, ?_⟩
  rcases Nat.eq_zero_or_pos s.len with h0 | h0
  · exact .inl h0
  · right
    obtain ⟨b, off, ha, hb, _⟩ := h.2.2.2 0 h0
    refine ⟨b, off, ha, hb, fun i hi => ?_⟩
    obtain ⟨b', off', ha', _, hc⟩ := h.2.2.2 i hi
    rw [ha] at ha'
    simp only [Option.some.injEq, Addr.mk.injEq, and_true] at ha'
    obtain ⟨rfl, rfl⟩ := ha'
    have := hc 0 (by omega)
    simpa [intC] using this
/-- Checks that are small. -/
def CkS (t : Tb) : Prop := ∀ e ∈ t.checks, sizE e ≤ 1000000 ∧ depE e ≤ 1000
def gT (tb : Nat → Tb) (i k : Nat) : Int × Int := tyT (tyL (tb i).col (tb i).cs.len) ((tb i).checks.getD k Ex.z)
theorem text_of {w : World} {ok : Nat → Prop} {a : Option Addr} {len cap : Nat} {l : List Ex} (h : Kids w ok a len cap l) {i : Nat} (hi : i < l.length) : (l.getD i Ex.z).text.size ≤ maxLen := by
  cases h with
  | mk a len cap l ad lens caps hl hc hm hn hcell hf h => exact (hf i (by omega)).2.2.2.1
theorem chkT_of {w : World} {t : Tb} (hT : TbAt w t) (hc : CkS t) (ho : OpsTab w) : ChkT w t fun k => tyT (tyL t.col t.cs.len) (t.checks.getD k Ex.z) := by
  intro k hk W s a len cap hW hsl hs hkk
  have hm : t.checks.getD k Ex.z ∈ t.checks := getD_mem hk
  exact TypeG_calls (tyL t.col t.cs.len) (t.checks.getD k Ex.z) s.a s.len s.cap a len cap _ W (numIn_sl (by rw [tyL_len, hsl]) hs) hkk (text_of hT.kids hk) (hc _ hm).1 (hc _ hm).2 (ho.later hW)
theorem rchkT_of {w : World} {t : Tb} (hT : TbAt w t) (hc : CkS t) : rChkT w t fun k => tyT (tyL t.col t.cs.len) (t.checks.getD k Ex.z) := by
  intro k hk W s a len cap hW hsl hs hkk
  have hm : t.checks.getD k Ex.z ∈ t.checks := getD_mem hk
  exact rTypeG_calls (tyL t.col t.cs.len) (t.checks.getD k Ex.z) s.a s.len s.cap a len cap _ W (numIn_sl (by rw [tyL_len, hsl]) hs) hkk (text_of hT.kids hk) (hc _ hm).1 (hc _ hm).2
/-- Both find the same first error. -/
def Both (w : World) (a : Option Addr) (n c : Nat) : Prop := ∃ v : Int, (∀ W, Below w.heap.size w W → Calls Tryd.prog 17 #[.agg #[.slice a n c]] W fun r w' => r = .returned (.int .i64 v) ∧ Cls W w') ∧
  ∀ W, Below w.heap.size w W → Calls Tryd.prog 18 #[.agg #[.slice a n c]] W fun r w' => r = .returned (.int .i64 v) ∧ Cls W w'
theorem both_of {w : World} {sl : Sl} {tb : Nat → Tb} (h : TabsAt w sl tb) (hc : ∀ j, j < sl.len → CkS (tb j)) (ho : OpsTab w) : Both w sl.a sl.len sl.cap :=
  ⟨validE sl tb (gT tb), fun W hW => sValid_calls sl tb (gT tb) W (h.later hW) fun i hi => chkT_of ((h.2 i hi).later hW) (hc i hi) (ho.later hW),
    fun W hW => rsValid_calls sl tb (gT tb) W (h.later hW) fun i hi => rchkT_of ((h.2 i hi).later hW) (hc i hi)⟩
theorem cks_made {i : Nat} {t : Tb} (h : MadeTb i t) : CkS t := by
  obtain ⟨fr, ff, ty, nl, fnl, tgt, ul, fl, ck, s1, s2, s3, s4, pb, rfl, _, _, _, _, _, _, _, _, _, _, _, _, _, hck⟩ := h
  intro e he
  have := (hck e he).bounds
  have h5 : 5 ^ (2 + 1) = 125 := by decide
  omega
theorem sl_inj {s s' : Sl} (h : s.v = s'.v) : s = s' := by
  obtain ⟨a, n, c⟩ := s
  obtain ⟨a', n', c'⟩ := s'
  simp only [Sl.v, Value.slice.injEq] at h
  obtain ⟨rfl, rfl, rfl⟩ := h
  rfl
namespace RowsG
variable {lo xb : Nat} {cs us fs ks : Value} {cl : List Cl} {ul : List UR} {fl : List FR} {rs : List Rec} {wr w' : World}
theorem dropC (h : RowsG lo xb cs us fs ks cl ul fl rs wr) (hb : ∀ b, lo ≤ b → b < wr.heap.size → cs.ownBlock ≠ some b → w'.heap[b]? = wr.heap[b]?) (hs : wr.heap.size ≤ w'.heap.size) : RowsG lo xb (.slice none 0 0) us fs ks [] ul fl rs w' :=
  ⟨World.ownsRow_nil _ _ _ 3, own_block h.u fun k hk => hb k (h.u.lt k hk).1 (h.u.lt k hk).2 (own_own h.u h.c (by decide) k hk),
    fun r hr => ⟨(h.ub r hr).1, (hb _ (h.ub r hr).1 (Array.getElem?_eq_some_iff.1 (h.ub r hr).2).1 fun e => own_ne_z h.c (h.ub r hr).2 (by decide) _ e rfl).trans (h.ub r hr).2⟩,
    own_block h.f fun k hk => hb k (h.f.lt k hk).1 (h.f.lt k hk).2 (own_own h.f h.c (by decide) k hk),
    fun r hr => ⟨(h.fb r hr).1, (hb _ (h.fb r hr).1 (Array.getElem?_eq_some_iff.1 (h.fb r hr).2).1 fun e => own_ne_z h.c (h.fb r hr).2 (by decide) _ e rfl).trans (h.fb r hr).2⟩,
    h.k.carry (Nat.le_refl _) hs (fun k hk => hb k (h.k.1.lt k hk).1 (h.k.1.lt k hk).2 (own_own h.k.1 h.c (by decide) k hk)) fun b hlt hok _ => ⟨⟨hok.1, hok.2.1, by simp [Value.ownBlock], hok.2.2.2⟩, hb b hok.1 hlt hok.2.2.1⟩⟩
theorem dropU (h : RowsG lo xb cs us fs ks cl ul fl rs wr) (hb : ∀ b, lo ≤ b → b < wr.heap.size → us.ownBlock ≠ some b → w'.heap[b]? = wr.heap[b]?) (hs : wr.heap.size ≤ w'.heap.size) : RowsG lo xb cs (.slice none 0 0) fs ks cl [] fl rs w' :=
  ⟨own_block h.c fun k hk => hb k (h.c.lt k hk).1 (h.c.lt k hk).2 (own_own h.c h.u (by decide) k hk), World.ownsRow_nil _ _ _ 1, fun r hr => by simp at hr,
    own_block h.f fun k hk => hb k (h.f.lt k hk).1 (h.f.lt k hk).2 (own_own h.f h.u (by decide) k hk),
    fun r hr => ⟨(h.fb r hr).1, (hb _ (h.fb r hr).1 (Array.getElem?_eq_some_iff.1 (h.fb r hr).2).1 fun e => own_ne_z h.u (h.fb r hr).2 (by decide) _ e rfl).trans (h.fb r hr).2⟩,
    h.k.carry (Nat.le_refl _) hs (fun k hk => hb k (h.k.1.lt k hk).1 (h.k.1.lt k hk).2 (own_own h.k.1 h.u (by decide) k hk)) fun b hlt hok _ => ⟨⟨hok.1, hok.2.1, hok.2.2.1, by simp [Value.ownBlock], hok.2.2.2.2⟩, hb b hok.1 hlt hok.2.2.2.1⟩⟩
theorem dropF (h : RowsG lo xb cs us fs ks cl ul fl rs wr) (hb : ∀ b, lo ≤ b → b < wr.heap.size → fs.ownBlock ≠ some b → w'.heap[b]? = wr.heap[b]?) (hs : wr.heap.size ≤ w'.heap.size) : RowsG lo xb cs us (.slice none 0 0) ks cl ul [] rs w' :=
  ⟨own_block h.c fun k hk => hb k (h.c.lt k hk).1 (h.c.lt k hk).2 (own_own h.c h.f (by decide) k hk), own_block h.u fun k hk => hb k (h.u.lt k hk).1 (h.u.lt k hk).2 (own_own h.u h.f (by decide) k hk),
    fun r hr => ⟨(h.ub r hr).1, (hb _ (h.ub r hr).1 (Array.getElem?_eq_some_iff.1 (h.ub r hr).2).1 fun e => own_ne_z h.f (h.ub r hr).2 (by decide) _ e rfl).trans (h.ub r hr).2⟩,
    World.ownsRow_nil _ _ _ 2, fun r hr => by simp at hr,
    h.k.carry (Nat.le_refl _) hs (fun k hk => hb k (h.k.1.lt k hk).1 (h.k.1.lt k hk).2 (own_own h.k.1 h.f (by decide) k hk)) fun b hlt hok _ => ⟨⟨hok.1, hok.2.1, hok.2.2.1, hok.2.2.2.1, by simp [Value.ownBlock]⟩, hb b hok.1 hlt hok.2.2.2.2⟩⟩
theorem dropK (h : RowsG lo xb cs us fs ks cl ul fl rs wr) (hb : ∀ b, lo ≤ b → b < wr.heap.size → ks.ownBlock ≠ some b → w'.heap[b]? = wr.heap[b]?) (hs : wr.heap.size ≤ w'.heap.size) : RowsG lo xb cs us fs (.slice none 0 0) cl ul fl [] w' :=
  ⟨own_block h.c fun k hk => hb k (h.c.lt k hk).1 (h.c.lt k hk).2 (own_own h.c h.k.1 (by decide) k hk), own_block h.u fun k hk => hb k (h.u.lt k hk).1 (h.u.lt k hk).2 (own_own h.u h.k.1 (by decide) k hk),
    fun r hr => ⟨(h.ub r hr).1, (hb _ (h.ub r hr).1 (Array.getElem?_eq_some_iff.1 (h.ub r hr).2).1 fun e => own_ne_z h.k.1 (h.ub r hr).2 (by decide) _ e rfl).trans (h.ub r hr).2⟩,
    own_block h.f fun k hk => hb k (h.f.lt k hk).1 (h.f.lt k hk).2 (own_own h.f h.k.1 (by decide) k hk),
    fun r hr => ⟨(h.fb r hr).1, (hb _ (h.fb r hr).1 (Array.getElem?_eq_some_iff.1 (h.fb r hr).2).1 fun e => own_ne_z h.k.1 (h.fb r hr).2 (by decide) _ e rfl).trans (h.fb r hr).2⟩,
    World.ownsRow_nil _ _ _ 6, fun r hr => by simp at hr⟩
end RowsG
/-- A cell of a row is stored. -/
theorem stored_sl {w : World} {base k n g cap : Nat} {e : TypeId} {xs : List Value} {cell : Nat → List Value} {i f : Nat} {v : Value} {ci : List Value} (h : w.ownsRow base e k (.slice (some ⟨g, 0, none⟩) n cap) n xs)
    (hc : ∀ i, i < n → ∀ j, j < k → xs[i * k + j]? = (cell i)[j]?) (hi : i < n) (hf : f < k) (hv : ci = (cell i).set f v) (hl : (cell i).length = k) : SlAt (w.setCell ⟨g, i * k + f, none⟩ v) k ⟨some ⟨g, 0, none⟩, n, cap⟩ (put cell i ci) := by
  have h1 := (h.stored (i * k + f) v).1
  obtain ⟨s, e1, l1, hs⟩ := own_sl (cell := put cell i ci) h1 fun i' hi' j hj => by
    have hx := h.1
    rw [List.getElem?_set]
    by_cases e : i' = i
    · subst e
      rw [put_at, hv, List.getElem?_set]
      have hlt : i' * k + f < xs.length := by
        rw [hx]
        have : (i' + 1) * k ≤ n * k := Nat.mul_le_mul_right k hi
        rw [Nat.succ_mul] at this
        omega
      by_cases e2 : f = j
      · subst e2
        rw [if_pos rfl, if_pos rfl, if_pos hlt, if_pos (by omega)]
      · rw [if_neg (by omega), if_neg e2]
        exact hc i' hi' j hj
    · have hne : ¬ i * k + f = i' * k + j := by
        intro he
        rcases Nat.lt_or_gt_of_ne e with hl | hl
        · have : (i' + 1) * k ≤ i * k := Nat.mul_le_mul_right k hl
          rw [Nat.succ_mul] at this
          omega
        · have : (i + 1) * k ≤ i' * k := Nat.mul_le_mul_right k hl
          rw [Nat.succ_mul] at this
          omega
      rw [if_neg hne]
      have hp : put cell i ci i' = cell i' := if_neg e
      rw [hp]
      exact hc i' hi' j hj
  have e2 : s = ⟨some ⟨g, 0, none⟩, n, cap⟩ := sl_inj e1.symm
  subst e2
  exact hs.1
/-- A made schema, opened at one of its tables. -/
def OpenAt (W : World) (lo0 : Nat) (sl : Sl) (tb : Nat → Tb) (i lo hi : Nat) : Prop :=
  W.ownsRow lo0 53 6 sl.v sl.len ((List.range sl.len).flatMap fun j => (tb j).cells) ∧ TbO W (tb i) lo hi ∧ lo0 ≤ lo ∧ hi ≤ W.heap.size ∧ (∀ k, sl.v.ownBlock = some k → ¬ (lo ≤ k ∧ k < hi)) ∧
    ∀ W' : World, (∀ b, b < W.heap.size → ¬ (lo ≤ b ∧ b < hi) → sl.v.ownBlock ≠ some b → lo0 ≤ b → W'.heap[b]? = W.heap[b]?) → W.heap.size ≤ W'.heap.size → ∀ j, j < sl.len → j ≠ i → TbAt W' (tb j)
theorem sch_open {W : World} {lo0 i : Nat} {sl : Sl} {tb : Nat → Tb} (h : SchO W lo0 sl tb) (hi : i < sl.len) : ∃ lo hi, OpenAt W lo0 sl tb i lo hi := by
  obtain ⟨h1, los, his, h2, h3⟩ := h
  obtain ⟨t1, t2, t3, t4⟩ := h2 i hi
  refine ⟨los i, his i, h1, t1, t2, t3, t4, fun W' hb hs j hj hne => ?_⟩
  obtain ⟨u1, u2, u3, u4⟩ := h2 j hj
  refine (u1.carry (fun b hb1 hb2 => hb b (by omega) (fun hc => ?_) (fun e => u4 b e ⟨hb1, hb2⟩) (by omega)) hs).at_
  rcases Nat.lt_or_gt_of_ne hne with hl | hl
  · have := h3 j i hl hi
    omega
  · have := h3 i j hl hj
    omega
theorem row_flat {tb : Nat → Tb} {n : Nat} : ∀ i, i < n → ∀ j, j < 6 → ((List.range n).flatMap fun j => (tb j).cells)[i * 6 + j]? = ((tb i).cells)[j]? := fun i hi j hj => by
  have h1 := flat_at (fun j => (tb j).cells) 6 (fun _ => rfl) 0 (List.range n) i (by simpa using hi) j hj
  rw [h1]
  simp [List.getD, hi]
/-- A store into a table's own cells. -/
theorem put_row {W1 : World} {lo0 i f g cap n : Nat} {tb : Nat → Tb} {t' : Tb} {v : Value} (h : W1.ownsRow lo0 53 6 (.slice (some ⟨g, 0, none⟩) n cap) n ((List.range n).flatMap fun j => (tb j).cells)) (hi : i < n) (hf : f < 6) (hv : t'.cells = (tb i).cells.set f v)
    (hT : TbAt (W1.setCell ⟨g, i * 6 + f, none⟩ v) t') (ho : ∀ j, j < n → j ≠ i → TbAt (W1.setCell ⟨g, i * 6 + f, none⟩ v) (tb j)) : TabsAt (W1.setCell ⟨g, i * 6 + f, none⟩ v) ⟨some ⟨g, 0, none⟩, n, cap⟩ (put tb i t') := by
  have h1 := stored_sl (cell := fun j => (tb j).cells) h row_flat hi hf hv rfl
  have e : (fun j => ((put tb i t') j).cells) = put (fun j => (tb j).cells) i t'.cells := by
    funext j
    unfold put
    split <;> rfl
  refine ⟨by rw [e]; exact h1, fun j hj => ?_⟩
  by_cases e : j = i
  · subst e
    rw [put_at]
    exact hT
  · rw [show put tb i t' j = tb j from if_neg e]
    exact ho j hj e
/-- A table's cells are as they were, and the row too. -/
theorem put_in {W' : World} {lo0 i g cap n : Nat} {tb : Nat → Tb} {t' : Tb} (h : W'.ownsRow lo0 53 6 (.slice (some ⟨g, 0, none⟩) n cap) n ((List.range n).flatMap fun j => (tb j).cells)) (hv : t'.cells = (tb i).cells)
    (hT : TbAt W' t') (ho : ∀ j, j < n → j ≠ i → TbAt W' (tb j)) : TabsAt W' ⟨some ⟨g, 0, none⟩, n, cap⟩ (put tb i t') := by
  obtain ⟨s, e1, l1, hs⟩ := own_sl (cell := fun j => ((put tb i t') j).cells) h fun i' hi' j hj => by
    rw [row_flat i' hi' j hj]
    by_cases e : i' = i
    · subst e
      rw [put_at, hv]
    · rw [show put tb i t' i' = tb i' from if_neg e]
  have e2 : s = ⟨some ⟨g, 0, none⟩, n, cap⟩ := sl_inj e1.symm
  subst e2
  refine ⟨hs.1, fun j hj => ?_⟩
  by_cases e : j = i
  · subst e
    rw [put_at]
    exact hT
  · rw [show put tb i t' j = tb j from if_neg e]
    exact ho j hj e
end Go.Proofs.YtpddkljedhghkaaDoor
