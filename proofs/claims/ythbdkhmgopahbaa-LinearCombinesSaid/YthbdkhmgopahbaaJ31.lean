/-
  The same as Inv, where what comes last need not be the text's end: heads and tails by a list. Regions that draw their order and whose operations make memory in any order: what each operation gives is said by a predicate that later worlds keep, and each is walked once, in any world of the class in which what it waits for has been given. Conditions: each operation has a slot of its own and looks only at slots that are old or that it waits for.
-/
import Derived.Test.YthbdkhmgopahbaaJ28
set_option linter.unusedVariables false
namespace Go.Proofs.Ythbdkhmgopahbaa
open Go Go.RowKit

section
variable {P : Program} {ops : Array Oper} {C : World → Prop}

/-- The tail comes in this order, and nothing beside it. -/
def seqT (md : Region.Mode) (ops : Array Oper) : List Nat → Array Bool → Bool
  | [], listed => (Region.ready md ops listed).isEmpty
  | t :: l, listed => decide (Region.ready md ops listed = [t]) && seqT md ops l (listed.setIfInBounds t true)
theorem wpAny_of_seqT {md : Region.Mode} {Q' : Exit → Act → World → Prop} : ∀ (l : List Nat) (os : List Oper) (listed : Array Bool) (a : Act) (w : World), l.map (ops[·]?) = os.map some → seqT md ops l listed = true → wpList P ops Q' os a w → wpAny P md ops Q' l.length listed a w
  | [], [], _, _, _, _, hB, h => ⟨by simpa [seqT] using hB, h⟩
  | [], o :: os, _, _, _, hm, _, _ => by simp at hm
  | t :: l, [], _, _, _, hm, _, _ => by simp at hm
  | t :: l, o :: os, listed, a, w, hm, hB, h => by
    simp only [List.map_cons, List.cons.injEq] at hm
    obtain ⟨h0, hm'⟩ := hm
    simp only [List.length_cons, seqT, Bool.and_eq_true, decide_eq_true_eq] at hB ⊢
    refine ⟨fun h1 => (by rw [hB.1] at h1; cases h1), fun i hi => ?_⟩
    rw [hB.1] at hi
    have hit : i = t := by simpa using hi
    subst hit
    have hw : wpOp P ops Q' i (wpList P ops Q' os) a w := by unfold wpOp; simp only [h0]; exact h
    exact wpOp_mono (fun a' w' h' => wpAny_of_seqT l os _ a' w' hm' hB.2 h') hw
/-- What is asked of the operations that are not in the tail, and of the tail, by the kernel. -/
def invH (md : Region.Mode) (ops : Array Oper) (tl : List Nat) (N : Nat) : Bool :=
  Region.noSelect ops && ((List.range ops.size).all fun k => tl.contains k || match ops[k]? with
    | none => false
    | some o => (match o.dst with | none => false | some d => decide (d < N)) && o.after.all (fun e => !Region.binds md e || (decide (e.on < k) && !tl.contains e.on)) &&
      (List.range ops.size).all fun j => tl.contains j || match ops[j]? with
        | none => false
        | some oj => (j == k || oj.dst != o.dst) && (match oj.dst with | none => false | some d => !(o.looksAt ops).contains d || (Region.waitsFor md ops k j && decide (j < k)))) &&
  (tl.all fun t => (List.range ops.size).all fun h => tl.contains h || wLink md ops ops.size t h) && seqT md ops tl ((List.range ops.size).map fun k => !tl.contains k).toArray

structure SpecH (md : Region.Mode) (ops : Array Oper) (tl : List Nat) (N : Nat) : Prop where
  sel : Region.noSelect ops = true
  dst : ∀ (k : Nat) (o : Oper), tl.contains k = false → ops[k]? = some o → ∃ d, o.dst = some d ∧ d < N
  after : ∀ (k : Nat) (o : Oper), tl.contains k = false → ops[k]? = some o → ∀ e ∈ o.after, Region.binds md e = true → e.on < k ∧ tl.contains e.on = false
  own : ∀ (k j : Nat) (o oj : Oper), tl.contains k = false → tl.contains j = false → ops[k]? = some o → ops[j]? = some oj → oj.dst = o.dst → j = k
  look : ∀ (k j : Nat) (o oj : Oper) (d : Tmp), tl.contains k = false → tl.contains j = false → ops[k]? = some o → ops[j]? = some oj → oj.dst = some d → d ∈ o.looksAt ops → Region.waitsFor md ops k j = true ∧ j < k
  link : ∀ t, tl.contains t = true → ∀ h, h < ops.size → tl.contains h = false → wLink md ops ops.size t h = true
  seq : seqT md ops tl ((List.range ops.size).map fun k => !tl.contains k).toArray = true
theorem invH_spec {md : Region.Mode} {ops : Array Oper} {tl : List Nat} {N : Nat} (h : invH md ops tl N = true) : SpecH md ops tl N := by
  simp only [invH, Bool.and_eq_true, List.all_eq_true, List.mem_range, Bool.or_eq_true] at h
  obtain ⟨⟨⟨h0, h⟩, ht⟩, hq⟩ := h
  have lt : ∀ (k : Nat) (o : Oper), ops[k]? = some o → k < ops.size := fun k o hk => (Array.getElem?_eq_some_iff.1 hk).1
  have go : ∀ k o, tl.contains k = false → ops[k]? = some o → _ := fun k o hkn hk => (h k (lt k o hk)).resolve_left (by rw [hkn]; exact Bool.false_ne_true)
  refine ⟨h0, fun k o hkn hk => ?_, fun k o hkn hk e he hb => ?_, fun k j o oj hkn hjn hk hj hjk => ?_, fun k j o oj d hkn hjn hk hj hd hl => ?_, fun t htl h' hh hn => ?_, hq⟩
  · have := go k o hkn hk
    simp only [hk, Bool.and_eq_true] at this
    cases hd : o.dst with
    | none => simp [hd] at this
    | some d => exact ⟨d, rfl, by simpa [hd] using this.1.1⟩
  · have := go k o hkn hk
    simp only [hk, Bool.and_eq_true, Array.all_eq_true_iff_forall_mem] at this
    have := this.1.2 e he
    simpa [hb] using this
  · have := go k o hkn hk
    simp only [hk, Bool.and_eq_true, List.all_eq_true, List.mem_range] at this
    have := this.2 j (lt j oj hj)
    simp only [hjn, hj, Bool.false_or, Bool.and_eq_true, Bool.or_eq_true, beq_iff_eq, bne_iff_ne] at this
    exact this.1.resolve_right (fun hn => hn hjk)
  · have := go k o hkn hk
    simp only [hk, Bool.and_eq_true, List.all_eq_true, List.mem_range] at this
    have := this.2 j (lt j oj hj)
    simp only [hjn, hj, hd, Bool.false_or, Bool.and_eq_true, Bool.or_eq_true, Bool.not_eq_true', decide_eq_true_eq] at this
    refine this.2.resolve_left (fun hn => ?_)
    simp [hl] at hn
  · have hm : t ∈ tl := by simpa using htl
    have := ht t hm h' hh
    exact this.resolve_left (by rw [hn]; exact Bool.false_ne_true)
/-- Each operation that is not in the tail, in the text's order: it is walked in every world of the class in which what it waits for has been given; whatever it gives, the next. -/
def wpInvH (P : Program) (ops : Array Oper) (tl : List Nat) (C : World → Prop) (Rl : Nat → World → World → Prop) (S : Says) (Q : Act → World → Prop) : List Oper → Nat → (Nat → Value) → Act → Prop
  | [], k, us, a => ∀ w, C w → (∀ j, j < k → tl.contains j = false → S.T j (us j) w) → (∀ i j, i < k → j < k → tl.contains i = false → tl.contains j = false → i ≠ j → S.R i j (us i) (us j)) → Q a w
  | o :: rest, k, us, a => if tl.contains k = true then wpInvH P ops tl C Rl S Q rest (k + 1) us a else (∀ w, C w → (∀ j, Region.waitsFor .any ops k j = true → S.T j (us j) w) →
      wpList P ops (fun e a' w' => e = .normal ∧ a' = a.put o.dst (a'.tmps.getD (o.dst.getD 0) undef) ∧ (C w' ∧ Rl k w w') ∧ S.T k (a'.tmps.getD (o.dst.getD 0) undef) w' ∧ S.F k (a'.tmps.getD (o.dst.getD 0) undef) w) [o] a w) ∧
    ∀ u, wpInvH P ops tl C Rl S Q rest (k + 1) (upd us k u) (a.put o.dst u)
theorem invH_nil {tl : List Nat} {Rl : Nat → World → World → Prop} {S : Says} {Q : Act → World → Prop} {k : Nat} {us : Nat → Value} {a : Act} (h : ∀ w, C w → (∀ j, j < k → tl.contains j = false → S.T j (us j) w) → (∀ i j, i < k → j < k → tl.contains i = false → tl.contains j = false → i ≠ j → S.R i j (us i) (us j)) → Q a w) : wpInvH P ops tl C Rl S Q [] k us a := h
theorem invH_skip {tl : List Nat} {Rl : Nat → World → World → Prop} {S : Says} {Q : Act → World → Prop} {o : Oper} {rest : List Oper} {k : Nat} {us : Nat → Value} {a : Act} (ht : tl.contains k = true) (h : wpInvH P ops tl C Rl S Q rest (k + 1) us a) : wpInvH P ops tl C Rl S Q (o :: rest) k us a := by
  unfold wpInvH; rw [if_pos ht]; exact h
theorem invH_step {tl : List Nat} {Rl : Nat → World → World → Prop} {S : Says} {Q : Act → World → Prop} {o : Oper} {rest : List Oper} {k : Nat} {us : Nat → Value} {a : Act} (ht : tl.contains k = false)
    (h : ∀ w, C w → (∀ j, Region.waitsFor .any ops k j = true → S.T j (us j) w) → ∀ K : Exit → Act → World → Prop, (∀ a' w', a' = a.put o.dst (a'.tmps.getD (o.dst.getD 0) undef) → C w' ∧ Rl k w w' → S.T k (a'.tmps.getD (o.dst.getD 0) undef) w' → S.F k (a'.tmps.getD (o.dst.getD 0) undef) w → K .normal a' w') → wpList P ops K [o] a w)
    (h' : ∀ u a', a' = a.put o.dst u → wpInvH P ops tl C Rl S Q rest (k + 1) (upd us k u) a') : wpInvH P ops tl C Rl S Q (o :: rest) k us a := by
  unfold wpInvH
  rw [if_neg (by rw [ht]; exact Bool.false_ne_true)]
  exact ⟨fun w hw hd => h w hw hd _ fun _ _ h1 h2 h3 h4 => ⟨rfl, h1, h2, h3, h4⟩, fun u => h' u _ rfl⟩
/-- The act of the text's order without the tail, with given values. -/
def layH (ops : Array Oper) (tl : List Nat) (us : Nat → Value) : Nat → Act → Act
  | 0, a => a
  | k + 1, a => if tl.contains k = true then layH ops tl us k a else (layH ops tl us k a).put ((ops[k]?).bind (·.dst)) (us k)
theorem layH_defers (tl : List Nat) (us : Nat → Value) (a : Act) : ∀ k, (layH ops tl us k a).defers = a.defers
  | 0 => rfl
  | k + 1 => by
    unfold layH
    split
    · exact layH_defers tl us a k
    · cases (ops[k]?).bind (·.dst) <;> exact layH_defers tl us a k
theorem layH_size (tl : List Nat) (us : Nat → Value) (a : Act) : ∀ k, (layH ops tl us k a).tmps.size = a.tmps.size
  | 0 => rfl
  | k + 1 => by
    unfold layH
    split
    · exact layH_size tl us a k
    · cases (ops[k]?).bind (·.dst)
      · exact layH_size tl us a k
      · simp [Act.put, layH_size tl us a k]
theorem layH_old {tl : List Nat} {us : Nat → Value} {a : Act} {d : Nat} : ∀ k, (∀ j, j < k → tl.contains j = false → (ops[j]?).bind (·.dst) ≠ some d) → (layH ops tl us k a).tmps[d]? = a.tmps[d]?
  | 0, _ => rfl
  | k + 1, h => by
    have ih := layH_old (us := us) (a := a) (d := d) k (fun j hj => h j (by omega))
    unfold layH
    split
    · exact ih
    · rename_i ht
      have := h k (by omega) (by simpa using ht)
      cases hd : (ops[k]?).bind (·.dst) with
      | none => exact ih
      | some e =>
        have hne : e ≠ d := fun hh => this (by rw [hd, hh])
        simp only [Act.put, Array.getElem?_setIfInBounds_ne hne]
        exact ih
theorem layH_at {md : Region.Mode} {tl : List Nat} {N : Nat} (S : SpecH md ops tl N) {us : Nat → Value} {a : Act} {d j : Nat} {oj : Oper} (hN : a.tmps.size = N) (hjt : tl.contains j = false) (hj : ops[j]? = some oj) (hd : oj.dst = some d) : ∀ k, j < k → k ≤ ops.size → (layH ops tl us k a).tmps[d]? = some (us j)
  | 0, h, _ => absurd h (Nat.not_lt_zero _)
  | k + 1, h, hk => by
    obtain ⟨d', hd', hlt⟩ := S.dst j oj hjt hj
    obtain rfl : d' = d := by rw [hd] at hd'; exact (Option.some.inj hd').symm
    unfold layH
    by_cases hjk : j = k
    · subst hjk
      rw [if_neg (by rw [hjt]; exact Bool.false_ne_true)]
      simp [hj, hd, Act.put, layH_size, hN, hlt]
    · have ih := layH_at S (us := us) hN hjt hj hd k (by omega) (by omega)
      split
      · exact ih
      · rename_i ht
        have hok : ∃ ok, ops[k]? = some ok := ⟨ops[k], Array.getElem?_eq_getElem (by omega)⟩
        obtain ⟨ok, hok⟩ := hok
        obtain ⟨e, he, _⟩ := S.dst k ok (by simpa using ht) hok
        have hne : e ≠ d' := fun hh => hjk (S.own k j ok oj (by simpa using ht) hjt hok hj (by rw [hd, he, hh]))
        simp only [hok, Option.bind_some, he, Act.put, Array.getElem?_setIfInBounds_ne hne]
        exact ih
def StepH (P : Program) (ops : Array Oper) (tl : List Nat) (C : World → Prop) (Rl : Nat → World → World → Prop) (Z : Says) (us : Nat → Value) (a0 : Act) (i : Nat) (o : Oper) : Prop :=
  ∀ w, C w → (∀ j, Region.waitsFor .any ops i j = true → j < i → Z.T j (us j) w) → (∀ j, Region.waitsFor .any ops i j = true → j < i) →
      wpList P ops (fun e a' w' => e = .normal ∧ a' = (layH ops tl us i a0).put o.dst (a'.tmps.getD (o.dst.getD 0) undef) ∧ (C w' ∧ Rl i w w') ∧ Z.T i (a'.tmps.getD (o.dst.getD 0) undef) w' ∧ Z.F i (a'.tmps.getD (o.dst.getD 0) undef) w) [o] (layH ops tl us i a0) w
def EndH (ops : Array Oper) (tl : List Nat) (C : World → Prop) (Z : Says) (Q : Act → World → Prop) (us : Nat → Value) (a0 : Act) : Prop :=
  ∀ w, C w → (∀ j, j < ops.size → tl.contains j = false → Z.T j (us j) w) → (∀ i j, i < ops.size → j < ops.size → tl.contains i = false → tl.contains j = false → i ≠ j → Z.R i j (us i) (us j)) → Q (layH ops tl us ops.size a0) w
theorem invH_at {tl : List Nat} {Rl : Nat → World → World → Prop} {Z : Says} {Q : Act → World → Prop} (us : Nat → Value) (a0 : Act) : ∀ (l : List Oper) (k : Nat) (vs : Nat → Value), (∀ j, j < l.length → l[j]? = ops[k + j]?) → k + l.length = ops.size → (∀ j, j < k → tl.contains j = false → vs j = us j) → (∀ i j, tl.contains i = false → Region.waitsFor .any ops i j = true → tl.contains j = false) → wpInvH P ops tl C Rl Z Q l k vs (layH ops tl us k a0) →
    (∀ (i : Nat) (o : Oper), k ≤ i → tl.contains i = false → ops[i]? = some o → StepH P ops tl C Rl Z us a0 i o) ∧ EndH ops tl C Z Q us a0
  | [], k, vs, hl, hk, hv, hwt, h => by
    obtain rfl : k = ops.size := by simpa using hk
    refine ⟨fun i o hi hn ho => ?_, fun w hw hT hR => h w hw (fun j hj hjt => by rw [hv j hj hjt]; exact hT j hj hjt) (fun i j hi hj hit hjt hij => by rw [hv i hi hit, hv j hj hjt]; exact hR i j hi hj hit hjt hij)⟩
    have := (Array.getElem?_eq_some_iff.1 ho).1
    omega
  | o :: rest, k, vs, hl, hk, hv, hwt, h => by
    have h0 : ops[k]? = some o := by simpa using (hl 0 (by simp)).symm
    have hr : ∀ j, j < rest.length → rest[j]? = ops[k + 1 + j]? := fun j hj => by have := hl (j + 1) (by simp; omega); simpa [Nat.add_assoc, Nat.add_comm 1 j] using this
    unfold wpInvH at h
    by_cases ht : tl.contains k = true
    · rw [if_pos ht] at h
      have hlay : layH ops tl us (k + 1) a0 = layH ops tl us k a0 := by unfold layH; rw [if_pos ht]; cases k <;> rfl
      have ih := invH_at us a0 rest (k + 1) vs hr (by simp only [List.length_cons] at hk; omega) (fun j hj hjt => by
        by_cases hjk : j = k
        · subst hjk; rw [ht] at hjt; cases hjt
        · exact hv j (by omega) hjt) hwt (by rw [hlay]; exact h)
      refine ⟨fun i oi hi hn hoi => ?_, ih.2⟩
      by_cases hik : i = k
      · subst hik; rw [ht] at hn; cases hn
      · exact ih.1 i oi (by omega) hn hoi
    · have ht' : tl.contains k = false := by simpa using ht
      rw [if_neg ht] at h
      have hlay : layH ops tl us (k + 1) a0 = (layH ops tl us k a0).put o.dst (us k) := by rw [layH, if_neg ht]; simp [h0]
      have ih := invH_at us a0 rest (k + 1) (upd vs k (us k)) hr (by simp only [List.length_cons] at hk; omega) (fun j hj hjt => by
        unfold upd
        split
        · rename_i e; rw [e]
        · exact hv j (by omega) hjt) hwt (by rw [hlay]; exact h.2 (us k))
      refine ⟨fun i oi hi hn hoi => ?_, ih.2⟩
      by_cases hik : i = k
      · subst hik
        obtain rfl : oi = o := Option.some.inj (hoi.symm.trans h0)
        exact fun w hw hT hb => h.1 w hw fun j hj => by rw [hv j (hb j hj) (hwt i j hn hj)]; exact hT j hj (hb j hj)
      · exact ih.1 i oi (by omega) hn hoi

/-- What holds between the operations, in whatever order they come. -/
structure InvAtH (md : Region.Mode) (ops : Array Oper) (tl : List Nat) (C : World → Prop) (Z : Says) (a0 : Act) (listed : Array Bool) (us : Nat → Value) (a : Act) (w : World) : Prop where
  cls : C w
  lsz : listed.size = ops.size
  closed : Closed md ops listed
  tails : ∀ t, tl.contains t = true → t < ops.size → listed.getD t true = false
  size : a.tmps.size = a0.tmps.size
  defers : a.defers = a0.defers
  old : ∀ d, (∀ (j : Nat) (oj : Oper), tl.contains j = false → ops[j]? = some oj → oj.dst ≠ some d) → a.tmps[d]? = a0.tmps[d]?
  done : ∀ (j : Nat) (oj : Oper) (d : Tmp), tl.contains j = false → ops[j]? = some oj → oj.dst = some d → listed.getD j false = true → a.tmps[d]? = some (us j) ∧ Z.T j (us j) w
  rel : ∀ i j, tl.contains i = false → tl.contains j = false → i ≠ j → listed.getD i false = true → listed.getD j false = true → Z.R i j (us i) (us j)
theorem InvAtH.act {md : Region.Mode} {tl : List Nat} {Z : Says} {a0 a : Act} {listed : Array Bool} {us : Nat → Value} {w : World} (S : SpecH md ops tl a0.tmps.size) (I : InvAtH md ops tl C Z a0 listed us a w) (hall : ∀ j, j < ops.size → tl.contains j = false → listed.getD j false = true) : a = layH ops tl us ops.size a0 := by
  have e1 : a.defers = (layH ops tl us ops.size a0).defers := by rw [layH_defers, I.defers]
  have e2 : a.tmps = (layH ops tl us ops.size a0).tmps := by
    refine Array.ext_getElem? fun d => ?_
    by_cases hd : ∃ (j : Nat) (oj : Oper), tl.contains j = false ∧ ops[j]? = some oj ∧ oj.dst = some d
    · obtain ⟨j, oj, hjt, hj, hjd⟩ := hd
      have hlt := (Array.getElem?_eq_some_iff.1 hj).1
      rw [(I.done j oj d hjt hj hjd (hall j hlt hjt)).1, layH_at S rfl hjt hj hjd ops.size hlt (Nat.le_refl _)]
    · have hno : ∀ (j : Nat) (oj : Oper), tl.contains j = false → ops[j]? = some oj → oj.dst ≠ some d := fun j oj hjt hj hjd => hd ⟨j, oj, hjt, hj, hjd⟩
      rw [I.old d hno, layH_old ops.size fun j hj hjt => ?_]
      cases ho : ops[j]? with
      | none => simp
      | some oj => simpa using hno j oj hjt ho
  cases a
  cases hb : layH ops tl us ops.size a0
  rw [hb] at e1 e2
  simp only at e1 e2
  rw [e1, e2]
theorem wpAny_of_invH {tl : List Nat} {tos : List Oper} {Rl : Nat → World → World → Prop} {Z : Says} {Q : Act → World → Prop} {Q' : Exit → Act → World → Prop} {a0 : Act} (htos : tl.map (ops[·]?) = tos.map some) (S : SpecH .any ops tl a0.tmps.size) (hQ : ∀ a w, Q a w → wpList P ops Q' tos a w)
    (mono : ∀ i j u w w', C w → Rl i w w' → j ≠ i → Z.T j u w → Z.T j u w') (rel : ∀ i j u v w, Z.F i u w → Z.T j v w → Z.R i j u v ∧ Z.R j i v u)
    (H : ∀ us : Nat → Value, (∀ (i : Nat) (o : Oper), 0 ≤ i → tl.contains i = false → ops[i]? = some o → StepH P ops tl C Rl Z us a0 i o) ∧ EndH ops tl C Z Q us a0) :
    ∀ (m : Nat) (l : List Nat) (listed : Array Bool) (us : Nat → Value) (a : Act) (w : World), l.length = m → l.Nodup → (∀ j, j ∈ l ↔ j < ops.size ∧ tl.contains j = false ∧ listed.getD j true = false) → InvAtH .any ops tl C Z a0 listed us a w → wpAny P .any ops Q' (m + tl.length) listed a w
  | 0, l, listed, us, a, w, hn, hp, hl, I => by
    obtain rfl := List.eq_nil_of_length_eq_zero hn
    have hsz := I.lsz
    have hall : ∀ j, j < ops.size → tl.contains j = false → listed.getD j false = true := fun j hj hjt => by
      cases hb : listed.getD j false with
      | true => rfl
      | false => exact absurd ((hl j).2 ⟨hj, hjt, getD_in (by omega) hb⟩) (by simp)
    have hlst : listed = ((List.range ops.size).map fun k => !tl.contains k).toArray := by
      refine Array.ext_getElem? fun j => ?_
      by_cases hj : j < ops.size
      · have hj2 : j < listed.size := by omega
        cases hjt : tl.contains j with
        | false =>
          have := hall j hj hjt
          simp [hj2] at this
          simp [hj, hj2, this]
          simpa using hjt
        | true =>
          have := I.tails j hjt hj
          simp [hj2] at this
          simp [hj, hj2, this]
          simpa using hjt
      · simp [show ¬ j < listed.size by omega, hj]
    rw [I.act S hall, Nat.zero_add]
    have hq := (H us).2 w I.cls (fun j hj hjt => by
      have hoj : ops[j]? = some ops[j] := Array.getElem?_eq_getElem (by omega)
      obtain ⟨d, hd, _⟩ := S.dst j _ hjt hoj
      exact (I.done j _ d hjt hoj hd (hall j hj hjt)).2) (fun i j hi hj hit hjt hij => I.rel i j hit hjt hij (hall i hi hit) (hall j hj hjt))
    exact wpAny_of_seqT (md := .any) (ops := ops) (Q' := Q') tl tos listed _ w htos (by rw [hlst]; exact S.seq) (hQ _ _ hq)
  | m + 1, l, listed, us, a, w, hn, hp, hl, I => by
    have hsz := I.lsz
    have hunl : ∃ j, j < ops.size ∧ tl.contains j = false ∧ listed.getD j true = false := by
      have hne : l ≠ [] := by intro e; subst e; simp at hn
      obtain ⟨j, hj⟩ := List.exists_mem_of_ne_nil l hne
      exact ⟨j, (hl j).1 hj⟩
    rw [show m + 1 + tl.length = (m + tl.length) + 1 by omega]
    refine ⟨fun h0 => ?_, fun i hi => ?_⟩
    · exfalso
      have hall : ∀ b j, j < b → j < ops.size → tl.contains j = false → listed.getD j false = true := by
        intro b
        induction b with
        | zero => intro j hj; omega
        | succ b ih =>
          intro j hj hjs hjt
          cases hb : listed.getD j false with
          | true => rfl
          | false =>
            have hoj : ops[j]? = some ops[j] := Array.getElem?_eq_getElem hjs
            have : j ∈ Region.ready .any ops listed := mem_ready.2 ⟨getD_in (by omega) hb, _, hoj, fun e he hb' => by
              have := S.after j _ hjt hoj e he hb'
              exact ih e.on (by omega) (by omega) this.2⟩
            rw [h0] at this
            cases this
      obtain ⟨j, h1, h2, h3⟩ := hunl
      have := hall (j + 1) j (by omega) h1 h2
      have h4 := getD_both h3
      rw [this] at h4
      cases h4
    · obtain ⟨h0, oi, hoi, hall⟩ := mem_ready.1 hi
      have hlt := (Array.getElem?_eq_some_iff.1 hoi).1
      have hin : tl.contains i = false := by
        cases hti : tl.contains i with
        | false => rfl
        | true =>
          exfalso
          obtain ⟨j, h1, h2, h3⟩ := hunl
          have := link_listed I.closed ops.size i j oi hoi (S.link i hti j h1 h2) hall
          have h4 := getD_both h3
          rw [this] at h4
          cases h4
      obtain ⟨d, hd, hdN⟩ := S.dst i oi hin hoi
      have hwait : ∀ j, Region.waitsFor .any ops i j = true → listed.getD j false = true ∧ j < i ∧ tl.contains j = false := fun j hj => by
        obtain ⟨oj, hoj, e, he, hb, rfl⟩ := Region.waitsFor_spec hj
        obtain rfl : oj = oi := Option.some.inj (hoj.symm.trans hoi)
        exact ⟨hall e he hb, S.after i oj hin hoj e he hb⟩
      have hT : ∀ j, Region.waitsFor .any ops i j = true → Z.T j (us j) w := fun j hj => by
        have h1 := hwait j hj
        have hoj : ops[j]? = some ops[j] := Array.getElem?_eq_getElem (by omega)
        obtain ⟨e, he, _⟩ := S.dst j _ h1.2.2 hoj
        exact (I.done j _ e h1.2.2 hoj he h1.1).2
      have h1 := (H us).1 i oi (Nat.zero_le _) hin hoi w I.cls (fun j hj _ => hT j hj) (fun j hj => (hwait j hj).2.1)
      have h2 := wpOp_of_list (R := fun u w' => (C w' ∧ Rl i w w') ∧ Z.T i u w' ∧ Z.F i u w) hoi hd h1
      have h3 := wpOp_agree (R := fun u w' => (C w' ∧ Rl i w w') ∧ Z.T i u w' ∧ Z.F i u w) (a2 := a) hoi (fun cs b => Region.noSelect_spec S.sel i oi cs b hoi) hd (by rw [layH_size]; exact hdN) (by rw [layH_defers, I.defers]) (fun x hx => by
        by_cases hx' : ∃ (j : Nat) (oj : Oper), tl.contains j = false ∧ ops[j]? = some oj ∧ oj.dst = some x
        · obtain ⟨j, oj, hjt, hj, hjd⟩ := hx'
          obtain ⟨g1, g2⟩ := S.look i j oi oj x hin hjt hoi hj hjd hx
          rw [layH_at S rfl hjt hj hjd i g2 (by omega), (I.done j oj x hjt hj hjd (hwait j g1).1).1]
        · have hno : ∀ (j : Nat) (oj : Oper), tl.contains j = false → ops[j]? = some oj → oj.dst ≠ some x := fun j oj hjt hj hjd => hx' ⟨j, oj, hjt, hj, hjd⟩
          rw [I.old x hno, layH_old i fun j hj hjt => ?_]
          cases ho : ops[j]? with
          | none => simp
          | some oj => simpa using hno j oj hjt ho) h2
      refine wpOp_mono ?_ (wpOp_exit (Q' := Q') h3)
      rintro a' w' ⟨u, rfl, ⟨hC', hcl⟩, hTi, hFi⟩
      have hil : i ∈ l := (hl i).2 ⟨hlt, hin, h0⟩
      have hTd : ∀ j, tl.contains j = false → listed.getD j false = true → Z.T j (us j) w := fun j hjt hjl => by
        have hjs : j < ops.size := by
          rcases Nat.lt_or_ge j ops.size with h' | h'
          · exact h'
          · rw [Array.getD, dif_neg (by omega)] at hjl; cases hjl
        have hoj : ops[j]? = some ops[j] := Array.getElem?_eq_getElem hjs
        obtain ⟨e, he, _⟩ := S.dst j _ hjt hoj
        exact (I.done j _ e hjt hoj he hjl).2
      refine wpAny_of_invH htos S hQ mono rel H m (l.erase i) _ (upd us i u) _ w' (by rw [List.length_erase_of_mem hil, hn]; rfl) (hp.erase i) (fun j => ?_) ⟨hC', by simp [hsz], closed_set I.closed hi, fun t ht hts => ?_, by rw [hd]; simp [Act.put, I.size], by rw [hd]; exact I.defers, fun x hx => ?_, fun j oj x hjn hj hjx hjl => ?_, fun j k hjn hkn hjk hjl hkl => ?_⟩
      · rw [hp.mem_erase_iff, hl j]
        by_cases hij : j = i
        · subst hij
          simp [hsz, hlt]
        · rw [getD_set_ne true (fun e => hij e.symm)]
          simp [hij]
      · have hne : i ≠ t := fun e => by subst e; rw [ht] at hin; cases hin
        rw [getD_set_ne true hne]
        exact I.tails t ht hts
      · have hne : d ≠ x := fun e => hx i oi hin hoi (by rw [hd, e])
        rw [hd]
        simp only [Act.put, Array.getElem?_setIfInBounds_ne hne]
        exact I.old x hx
      · by_cases hij : j = i
        · subst hij
          obtain rfl : oj = oi := Option.some.inj (hj.symm.trans hoi)
          obtain rfl : d = x := Option.some.inj (hd.symm.trans hjx)
          refine ⟨?_, ?_⟩
          · rw [hd]
            simp [Act.put, I.size, hdN, upd]
          · simpa [upd] using hTi
        · rw [getD_set_ne false (fun e => hij e.symm)] at hjl
          obtain ⟨g1, g2⟩ := I.done j oj x hjn hj hjx hjl
          have hne : d ≠ x := fun e => hij (S.own i j oi oj hin hjn hoi hj (by rw [hd, hjx, e]))
          refine ⟨?_, ?_⟩
          · rw [hd]
            simp only [Act.put, Array.getElem?_setIfInBounds_ne hne]
            simpa [upd, hij] using g1
          · simpa [upd, hij] using mono i j _ w w' I.cls hcl hij g2
      · by_cases hji : j = i
        · subst hji
          rw [getD_set_ne false hjk] at hkl
          have := (rel j k u (us k) w hFi (hTd k hkn hkl)).1
          simpa [upd, Ne.symm hjk] using this
        · rw [getD_set_ne false (fun e => hji e.symm)] at hjl
          by_cases hki : k = i
          · subst hki
            have := (rel k j u (us j) w hFi (hTd j hjn hjl)).2
            simpa [upd, hji] using this
          · rw [getD_set_ne false (fun e => hki e.symm)] at hkl
            simpa [upd, hji, hki] using I.rel j k hjn hkn hjk hjl hkl

/-- **All operations but those of the tail, each walked once in the text's order, serve every order; the tail comes in one.** -/
theorem wp_region_invH {id : Nat} {Q : Exit → Act → World → Prop} {a : Act} {w : World} {l : List Oper} (C : World → Prop) (Rl : Nat → World → World → Prop) (tl : List Nat) (tos : List Oper) (Z : Says) (N : Nat) (hm : P.follows .mixedOrders = true) (hN : a.tmps.size = N) (hB : invH .any l.toArray tl N = true) (htos : tl.map (l.toArray[·]?) = tos.map some)
    (hC : C { w with drawn := w.drawn + 1 }) (mono : ∀ i j u w w', C w → Rl i w w' → j ≠ i → Z.T j u w → Z.T j u w') (rel : ∀ i j u v w, Z.F i u w → Z.T j v w → Z.R i j u v ∧ Z.R j i v u)
    (hsz : ((List.range l.length).filter fun k => !tl.contains k).length + tl.length = l.length)
    (h : wpInvH P l.toArray tl C Rl Z (fun a' w' => wpList P l.toArray Q tos a' w') l 0 (fun _ => undef) a) : (Code.region id l.toArray true).wp P Q a w := by
  subst hN
  refine wp_region_any hm ?_
  have S := invH_spec hB
  have hwt : ∀ i j, tl.contains i = false → Region.waitsFor .any l.toArray i j = true → tl.contains j = false := fun i j hi hj => by
    obtain ⟨oj, hoj, e, he, hb, rfl⟩ := Region.waitsFor_spec hj
    exact (S.after i oj hi hoj e he hb).2
  have := wpAny_of_invH (C := C) (Rl := Rl) (Z := Z) (Q := fun a' w' => wpList P l.toArray Q tos a' w') (Q' := Q) htos S (fun _ _ h => h) mono rel (fun us => invH_at us a l 0 (fun _ => undef) (fun j hj => by simp) (by simp) (fun j hj => absurd hj (Nat.not_lt_zero _)) hwt h) _ ((List.range l.length).filter fun k => !tl.contains k) (Array.replicate l.toArray.size false) (fun _ => undef) a _ rfl (List.Pairwise.filter _ List.nodup_range) (fun j => ?_) ⟨hC, by simp, fun j oj _ hl => (by rw [getD_replicate_false] at hl; cases hl), fun t _ ht => getD_in (by simpa using ht) (getD_replicate_false _ _), rfl, rfl, fun _ _ => rfl, fun j oj d _ _ _ hl => ?_, fun i j _ _ _ hl => ?_⟩
  · rw [hsz] at this
    simpa using this
  · rw [List.mem_filter, List.mem_range]
    constructor
    · rintro ⟨h1, h2⟩
      refine ⟨by simpa using h1, by simpa using h2, getD_in (by simpa using h1) (getD_replicate_false _ _)⟩
    · rintro ⟨h1, h2, _⟩
      exact ⟨by simpa using h1, by simpa using h2⟩
  · rw [getD_replicate_false] at hl
    cases hl
  · rw [getD_replicate_false] at hl
    cases hl
end
end Go.Proofs.Ythbdkhmgopahbaa
