/-
  Regions that draw their order and whose operations make memory in any order: what each operation gives is said by a predicate that later worlds keep, and each is walked once, in any world of the class in which what it waits for has been given. Conditions: each operation has a slot of its own and looks only at slots that are old or that it waits for.
-/
import Derived.Test.YthbdkhmgopahbaaJ16
set_option linter.unusedVariables false
namespace Go.Proofs.Ythbdkhmgopahbaa
open Go Go.RowKit

section
variable {P : Program} {ops : Array Oper} {C : World → Prop}

theorem wpOp_agree {i : Nat} {o : Oper} {d : Nat} {a1 a2 : Act} {w : World} {R : Value → World → Prop} (hi : ops[i]? = some o) (hs : ∀ cs b, o.op ≠ .select cs b)
    (hd : o.dst = some d) (h1 : d < a1.tmps.size) (hdf : a1.defers = a2.defers) (hag : ∀ x ∈ o.looksAt ops, a1.tmps[x]? = a2.tmps[x]?)
    (h : wpOp P ops NoExit i (fun a' w' => ∃ u, a' = a1.put o.dst u ∧ R u w') a1 w) : wpOp P ops NoExit i (fun a' w' => ∃ u, a' = a2.put o.dst u ∧ R u w') a2 w := by
  have he : execOp a2.eval o = execOp a1.eval o := execOp_congr o hs fun x hx => by
    cases x with
    | tmp t =>
      have := hag t (List.mem_append_left _ (List.mem_filterMap.2 ⟨.tmp t, by simpa using hx, rfl⟩))
      simp [Act.eval, this]
    | _ => rfl
  have hw : Region.wanted o (yielded ops a2.tmps) = Region.wanted o (yielded ops a1.tmps) := by
    unfold Region.wanted
    cases hg : o.guard with
    | none => rfl
    | some gw =>
      obtain ⟨g, want⟩ := gw
      have hy : yielded ops a2.tmps g = yielded ops a1.tmps g := by
        unfold yielded
        cases ht : (ops[g]?).bind (·.dst) with
        | none => rfl
        | some t => simp [← hag t (by simp [Oper.looksAt, hg, ht])]
      simp only [hy]
  have inj : ∀ (ds : List Deferred) (u u' : Value), ({ a1 with defers := ds } : Act).put o.dst u = a1.put o.dst u' → ds = a1.defers ∧ u = u' := fun ds u u' hh => by
    rw [hd] at hh
    simp only [Act.put, Act.mk.injEq] at hh
    refine ⟨hh.2, ?_⟩
    have := congrArg (fun l : Array Value => l[d]?) hh.1
    simpa [Array.getElem?_setIfInBounds, h1] using this
  have fit : ∀ (ds : List Deferred) (u : Value) (w' : World), (∃ u', ({ a1 with defers := ds } : Act).put o.dst u = a1.put o.dst u' ∧ R u' w') → ds = a1.defers ∧ R u w' := fun ds u w' ⟨u', g1, g2⟩ => by
    obtain ⟨e1, e2⟩ := inj ds u u' g1
    exact ⟨e1, e2 ▸ g2⟩
  unfold wpOp at *
  simp only [hi] at *
  rw [hw]
  split
  · rename_i hwt
    rw [if_pos hwt] at h
    refine .inl ?_
    rcases h with h | ⟨_, h⟩
    · unfold Oper.wp at *
      rw [he]
      generalize (execOp a1.eval o).run P w = r at *
      cases r with
      | ok n w' =>
        cases n <;> simp only [Oper.upon] at h ⊢
        case value u => exact ⟨u, rfl, (fit a1.defers u w' h).2⟩
        case skip => exact ⟨_, rfl, (fit a1.defers _ w' h).2⟩
        case defer x =>
          have e1 := (fit (x :: a1.defers) _ w' h).1
          have := congrArg List.length e1
          simp at this
        case enter f args =>
          refine Calls.mono h fun e w'' he => ?_
          cases e with
          | returned u => exact ⟨u, rfl, (fit a1.defers u w'' he).2⟩
          | panicked c => exact he
          | outgrown => exact he
        case row row args => exact Rows.mono h fun u w'' he => ⟨u, rfl, (fit a1.defers u w'' he).2⟩
      | halt y w' => cases y <;> simp only [Oper.upon] at h ⊢; exact h
    · exact absurd h noExit_out
  · rename_i hwt
    rw [if_neg hwt] at h
    exact ⟨undef, rfl, (fit a1.defers _ w h).2⟩

/-- What is asked of the first n operations, by the kernel. -/
def invB (md : Region.Mode) (ops : Array Oper) (n N : Nat) : Bool :=
  Region.noSelect ops && decide (n ≤ ops.size) && ((List.range n).all fun k => match ops[k]? with
    | none => false
    | some o => (match o.dst with | none => false | some d => decide (d < N)) && o.after.all (fun e => !Region.binds md e || decide (e.on < k)) &&
      (List.range n).all fun j => match ops[j]? with
        | none => false
        | some oj => (j == k || oj.dst != o.dst) && (match oj.dst with | none => false | some d => !(o.looksAt ops).contains d || (Region.waitsFor md ops k j && decide (j < k)))) &&
  (n == ops.size || (decide (n < ops.size) && Region.sinkB md ops n && Region.chainB md ops n)) && Region.seqB md ops (ops.size - n) n (Array.replicate n true ++ Array.replicate (ops.size - n) false)

structure InvSpec (md : Region.Mode) (ops : Array Oper) (n N : Nat) : Prop where
  sel : Region.noSelect ops = true
  le : n ≤ ops.size
  dst : ∀ (k : Nat) (o : Oper), k < n → ops[k]? = some o → ∃ d, o.dst = some d ∧ d < N
  after : ∀ (k : Nat) (o : Oper), k < n → ops[k]? = some o → ∀ e ∈ o.after, Region.binds md e = true → e.on < k
  own : ∀ (k j : Nat) (o oj : Oper), k < n → j < n → ops[k]? = some o → ops[j]? = some oj → oj.dst = o.dst → j = k
  look : ∀ (k j : Nat) (o oj : Oper) (d : Tmp), k < n → j < n → ops[k]? = some o → ops[j]? = some oj → oj.dst = some d → d ∈ o.looksAt ops → Region.waitsFor md ops k j = true ∧ j < k
  tail : n = ops.size ∨ (n < ops.size ∧ Region.sinkB md ops n = true ∧ Region.chainB md ops n = true)
  seq : Region.seqB md ops (ops.size - n) n (Array.replicate n true ++ Array.replicate (ops.size - n) false) = true
theorem invB_spec {md : Region.Mode} {ops : Array Oper} {n N : Nat} (h : invB md ops n N = true) : InvSpec md ops n N := by
  simp only [invB, Bool.and_eq_true, List.all_eq_true, List.mem_range, decide_eq_true_eq, Bool.or_eq_true, beq_iff_eq] at h
  obtain ⟨⟨⟨⟨h0, hle⟩, h⟩, ht⟩, hq⟩ := h
  refine ⟨h0, hle, fun k o hkn hk => ?_, fun k o hkn hk e he hb => ?_, fun k j o oj hkn hjn hk hj hjk => ?_, fun k j o oj d hkn hjn hk hj hd hl => ?_, ht.imp id (fun q => ⟨q.1.1, q.1.2, q.2⟩), hq⟩
  · have := h k hkn
    simp only [hk, Bool.and_eq_true] at this
    cases hd : o.dst with
    | none => simp [hd] at this
    | some d => exact ⟨d, rfl, by simpa [hd] using this.1.1⟩
  · have := h k hkn
    simp only [hk, Bool.and_eq_true, Array.all_eq_true_iff_forall_mem] at this
    have := this.1.2 e he
    simpa [hb] using this
  · have := h k hkn
    simp only [hk, Bool.and_eq_true, List.all_eq_true, List.mem_range] at this
    have := this.2 j hjn
    simp only [hj, Bool.and_eq_true, Bool.or_eq_true, beq_iff_eq, bne_iff_ne] at this
    exact this.1.resolve_right (fun hn => hn hjk)
  · have := h k hkn
    simp only [hk, Bool.and_eq_true, List.all_eq_true, List.mem_range] at this
    have := this.2 j hjn
    simp only [hj, hd, Bool.and_eq_true, Bool.or_eq_true, Bool.not_eq_true', decide_eq_true_eq] at this
    refine this.2.resolve_left (fun hn => ?_)
    simp [hl] at hn

/-- What is said of the operations: what each one's value is in every later world, what it is seen from the world before, and what the values of any two are to one another. -/
structure Says where
  T : Nat → Value → World → Prop
  F : Nat → Value → World → Prop
  R : Nat → Nat → Value → Value → Prop

/-- The values that came before, with one more. -/
def upd (us : Nat → Value) (k : Nat) (u : Value) : Nat → Value := fun j => if j = k then u else us j

/-- Each operation in the text's order: it is walked in every world of the class in which what it waits for has been given; whatever it gives, the next. -/
def wpInv (P : Program) (ops : Array Oper) (C : World → Prop) (Rl : Nat → World → World → Prop) (S : Says) (Q : Act → World → Prop) : List Oper → Nat → (Nat → Value) → Act → Prop
  | [], k, us, a => ∀ w, C w → (∀ j, j < k → S.T j (us j) w) → (∀ i j, i < k → j < k → i ≠ j → S.R i j (us i) (us j)) → Q a w
  | o :: rest, k, us, a => (∀ w, C w → (∀ j, Region.waitsFor .any ops k j = true → S.T j (us j) w) →
      wpList P ops (fun e a' w' => e = .normal ∧ a' = a.put o.dst (a'.tmps.getD (o.dst.getD 0) undef) ∧ (C w' ∧ Rl k w w') ∧ S.T k (a'.tmps.getD (o.dst.getD 0) undef) w' ∧ S.F k (a'.tmps.getD (o.dst.getD 0) undef) w) [o] a w) ∧
    ∀ u, wpInv P ops C Rl S Q rest (k + 1) (upd us k u) (a.put o.dst u)

theorem inv_nil {Rl : Nat → World → World → Prop} {S : Says} {Q : Act → World → Prop} {k : Nat} {us : Nat → Value} {a : Act} (h : ∀ w, C w → (∀ j, j < k → S.T j (us j) w) → (∀ i j, i < k → j < k → i ≠ j → S.R i j (us i) (us j)) → Q a w) : wpInv P ops C Rl S Q [] k us a := h
theorem inv_step {Rl : Nat → World → World → Prop} {S : Says} {Q : Act → World → Prop} {o : Oper} {rest : List Oper} {k : Nat} {us : Nat → Value} {a : Act}
    (h : ∀ w, C w → (∀ j, Region.waitsFor .any ops k j = true → S.T j (us j) w) → ∀ K : Exit → Act → World → Prop, (∀ a' w', a' = a.put o.dst (a'.tmps.getD (o.dst.getD 0) undef) → C w' ∧ Rl k w w' → S.T k (a'.tmps.getD (o.dst.getD 0) undef) w' → S.F k (a'.tmps.getD (o.dst.getD 0) undef) w → K .normal a' w') → wpList P ops K [o] a w)
    (h' : ∀ u a', a' = a.put o.dst u → wpInv P ops C Rl S Q rest (k + 1) (upd us k u) a') : wpInv P ops C Rl S Q (o :: rest) k us a :=
  ⟨fun w hw hd => h w hw hd _ fun _ _ h1 h2 h3 h4 => ⟨rfl, h1, h2, h3, h4⟩, fun u => h' u _ rfl⟩

/-- The act of the text's order, with given values. -/
def layTo (ops : Array Oper) (us : Nat → Value) : Nat → Act → Act
  | 0, a => a
  | k + 1, a => (layTo ops us k a).put ((ops[k]?).bind (·.dst)) (us k)
theorem layTo_defers (us : Nat → Value) (a : Act) : ∀ k, (layTo ops us k a).defers = a.defers
  | 0 => rfl
  | k + 1 => by
    unfold layTo
    cases (ops[k]?).bind (·.dst) <;> exact layTo_defers us a k
theorem layTo_size (us : Nat → Value) (a : Act) : ∀ k, (layTo ops us k a).tmps.size = a.tmps.size
  | 0 => rfl
  | k + 1 => by
    unfold layTo
    cases (ops[k]?).bind (·.dst)
    · exact layTo_size us a k
    · simp [Act.put, layTo_size us a k]
theorem layTo_old {us : Nat → Value} {a : Act} {d : Nat} : ∀ k, (∀ j, j < k → (ops[j]?).bind (·.dst) ≠ some d) → (layTo ops us k a).tmps[d]? = a.tmps[d]?
  | 0, _ => rfl
  | k + 1, h => by
    have ih := layTo_old (us := us) (a := a) (d := d) k (fun j hj => h j (by omega))
    have := h k (by omega)
    unfold layTo
    cases hd : (ops[k]?).bind (·.dst) with
    | none => exact ih
    | some e =>
      have hne : e ≠ d := fun hh => this (by rw [hd, hh])
      simp only [Act.put, Array.getElem?_setIfInBounds_ne hne]
      exact ih
theorem layTo_at {md : Region.Mode} {n N : Nat} (S : InvSpec md ops n N) {us : Nat → Value} {a : Act} {d j : Nat} {oj : Oper} (hN : a.tmps.size = N) (hj : ops[j]? = some oj) (hd : oj.dst = some d) : ∀ k, j < k → k ≤ n → (layTo ops us k a).tmps[d]? = some (us j)
  | 0, h, _ => absurd h (Nat.not_lt_zero _)
  | k + 1, h, hk => by
    have hle := S.le
    obtain ⟨d', hd', hlt⟩ := S.dst j oj (by omega) hj
    obtain rfl : d' = d := by rw [hd] at hd'; exact (Option.some.inj hd').symm
    unfold layTo
    by_cases hjk : j = k
    · subst hjk
      simp [hj, hd, Act.put, layTo_size, hN, hlt]
    · have ih := layTo_at S (us := us) hN hj hd k (by omega) (by omega)
      have hok : ∃ ok, ops[k]? = some ok := ⟨ops[k], Array.getElem?_eq_getElem (by omega)⟩
      obtain ⟨ok, hok⟩ := hok
      obtain ⟨e, he, _⟩ := S.dst k ok (by omega) hok
      have hne : e ≠ d' := fun hh => hjk (S.own k j ok oj (by omega) (by omega) hok hj (by rw [hd, he, hh]))
      simp only [hok, Option.bind_some, he, Act.put, Array.getElem?_setIfInBounds_ne hne]
      exact ih

/-- What holds between the operations, in whatever order they come. -/
structure InvAt (md : Region.Mode) (ops : Array Oper) (n : Nat) (C : World → Prop) (Z : Says) (a0 : Act) (listed : Array Bool) (us : Nat → Value) (a : Act) (w : World) : Prop where
  cls : C w
  head : HeadInv md ops n listed
  size : a.tmps.size = a0.tmps.size
  defers : a.defers = a0.defers
  old : ∀ d, (∀ (j : Nat) (oj : Oper), j < n → ops[j]? = some oj → oj.dst ≠ some d) → a.tmps[d]? = a0.tmps[d]?
  done : ∀ (j : Nat) (oj : Oper) (d : Tmp), j < n → ops[j]? = some oj → oj.dst = some d → listed.getD j false = true → a.tmps[d]? = some (us j) ∧ Z.T j (us j) w
  rel : ∀ i j, i < n → j < n → i ≠ j → listed.getD i false = true → listed.getD j false = true → Z.R i j (us i) (us j)

def StepAt (P : Program) (ops : Array Oper) (C : World → Prop) (Rl : Nat → World → World → Prop) (Z : Says) (us : Nat → Value) (a0 : Act) (i : Nat) (o : Oper) : Prop :=
  ∀ w, C w → (∀ j, Region.waitsFor .any ops i j = true → j < i → Z.T j (us j) w) → (∀ j, Region.waitsFor .any ops i j = true → j < i) →
      wpList P ops (fun e a' w' => e = .normal ∧ a' = (layTo ops us i a0).put o.dst (a'.tmps.getD (o.dst.getD 0) undef) ∧ (C w' ∧ Rl i w w') ∧ Z.T i (a'.tmps.getD (o.dst.getD 0) undef) w' ∧ Z.F i (a'.tmps.getD (o.dst.getD 0) undef) w) [o] (layTo ops us i a0) w
def EndAt (ops : Array Oper) (n : Nat) (C : World → Prop) (Z : Says) (Q : Act → World → Prop) (us : Nat → Value) (a0 : Act) : Prop :=
  ∀ w, C w → (∀ j, j < n → Z.T j (us j) w) → (∀ i j, i < n → j < n → i ≠ j → Z.R i j (us i) (us j)) → Q (layTo ops us n a0) w
theorem inv_at {Rl : Nat → World → World → Prop} {Z : Says} {Q : Act → World → Prop} (n : Nat) (us : Nat → Value) (a0 : Act) : ∀ (l : List Oper) (k : Nat) (vs : Nat → Value), (∀ j, j < l.length → l[j]? = ops[k + j]?) → k + l.length = n → (∀ j, j < k → vs j = us j) → wpInv P ops C Rl Z Q l k vs (layTo ops us k a0) →
    (∀ (i : Nat) (o : Oper), k ≤ i → i < n → ops[i]? = some o → StepAt P ops C Rl Z us a0 i o) ∧ EndAt ops n C Z Q us a0
  | [], k, vs, hl, hk, hv, h => by
    obtain rfl : k = n := by simpa using hk
    refine ⟨fun i o hi hn ho => by omega, fun w hw hT hR => h w hw (fun j hj => by rw [hv j hj]; exact hT j hj) (fun i j hi hj hij => by rw [hv i hi, hv j hj]; exact hR i j hi hj hij)⟩
  | o :: rest, k, vs, hl, hk, hv, h => by
    have h0 : ops[k]? = some o := by simpa using (hl 0 (by simp)).symm
    have hr : ∀ j, j < rest.length → rest[j]? = ops[k + 1 + j]? := fun j hj => by have := hl (j + 1) (by simp; omega); simpa [Nat.add_assoc, Nat.add_comm 1 j] using this
    have hlay : layTo ops us (k + 1) a0 = (layTo ops us k a0).put o.dst (us k) := by simp [layTo, h0]
    have ih := inv_at n us a0 rest (k + 1) (upd vs k (us k)) hr (by simp only [List.length_cons] at hk; omega) (fun j hj => by
      unfold upd
      split
      · rename_i e; rw [e]
      · exact hv j (by omega)) (by rw [hlay]; exact h.2 (us k))
    refine ⟨fun i oi hi hn hoi => ?_, ih.2⟩
    by_cases hik : i = k
    · subst hik
      obtain rfl : oi = o := Option.some.inj (hoi.symm.trans h0)
      exact fun w hw hT hb => h.1 w hw fun j hj => by rw [hv j (hb j hj)]; exact hT j hj (hb j hj)
    · exact ih.1 i oi (by omega) hn hoi

theorem wpOp_of_list {R : Value → World → Prop} {i : Nat} {o : Oper} {d : Nat} {a : Act} {w : World} (hi : ops[i]? = some o) (hd : o.dst = some d)
    (h : wpList P ops (fun e a' w' => e = .normal ∧ a' = a.put o.dst (a'.tmps.getD (o.dst.getD 0) undef) ∧ R (a'.tmps.getD (o.dst.getD 0) undef) w') [o] a w) :
    wpOp P ops NoExit i (fun a' w' => ∃ u, a' = a.put o.dst u ∧ R u w') a w := by
  have key : ∀ (e : Exit) (a' : Act) (w' : World), (e = .normal ∧ a' = a.put o.dst (a'.tmps.getD (o.dst.getD 0) undef) ∧ R (a'.tmps.getD (o.dst.getD 0) undef) w') → ∃ u, a' = a.put o.dst u ∧ R u w' := fun e a' w' ⟨_, h1, h2⟩ => ⟨_, h1, h2⟩
  unfold wpOp
  simp only [hi]
  unfold wpList at h
  split
  · rename_i hw
    rw [if_pos hw] at h
    left
    rcases h with h | ⟨_, b, w1, h⟩
    · unfold Oper.wp at *
      generalize (execOp a.eval o).run P w = r at *
      cases r with
      | ok n w' =>
        cases n <;> simp only [Oper.upon, wpList] at h ⊢
        case enter f args =>
          refine Calls.mono h fun e w'' he => ?_
          cases e with
          | returned u => exact key .normal _ _ ⟨rfl, he.2⟩
          | panicked c => exact absurd he.1 (by simp)
          | outgrown => obtain ⟨b, w1, he⟩ := he; exact absurd he.1 (by simp)
        case row row args => exact Rows.mono h fun u w'' he => key .normal _ _ ⟨rfl, he.2⟩
        all_goals exact key .normal _ _ ⟨rfl, h.2⟩
      | halt y w' => cases y <;> simp only [Oper.upon] at h ⊢; exact absurd h.1 (by simp)
    · exact absurd h.1 (by simp)
  · rename_i hw
    rw [if_neg hw] at h
    exact key .normal _ _ ⟨rfl, h.2⟩

theorem InvAt.act {md : Region.Mode} {n : Nat} {Z : Says} {a0 a : Act} {listed : Array Bool} {us : Nat → Value} {w : World} (S : InvSpec md ops n a0.tmps.size) (I : InvAt md ops n C Z a0 listed us a w) (hall : ∀ j, j < n → listed.getD j false = true) : a = layTo ops us n a0 := by
  have e1 : a.defers = (layTo ops us n a0).defers := by rw [layTo_defers, I.defers]
  have e2 : a.tmps = (layTo ops us n a0).tmps := by
    refine Array.ext_getElem? fun d => ?_
    by_cases hd : ∃ (j : Nat) (oj : Oper), j < n ∧ ops[j]? = some oj ∧ oj.dst = some d
    · obtain ⟨j, oj, hjn, hj, hjd⟩ := hd
      rw [(I.done j oj d hjn hj hjd (hall j hjn)).1, layTo_at S rfl hj hjd n hjn (Nat.le_refl _)]
    · have hno : ∀ (j : Nat) (oj : Oper), j < n → ops[j]? = some oj → oj.dst ≠ some d := fun j oj hjn hj hjd => hd ⟨j, oj, hjn, hj, hjd⟩
      rw [I.old d hno, layTo_old n fun j hj => ?_]
      cases ho : ops[j]? with
      | none => simp
      | some oj => simpa using hno j oj hj ho
  cases a
  cases hb : layTo ops us n a0
  rw [hb] at e1 e2
  simp only at e1 e2
  rw [e1, e2]

theorem wpAny_of_inv {Rl : Nat → World → World → Prop} {Z : Says} {Q : Act → World → Prop} {Q' : Exit → Act → World → Prop} {n : Nat} {l0 : List Oper} {a0 : Act} (hops : ops = l0.toArray) (S : InvSpec .any ops n a0.tmps.size) (hQ : ∀ a w, Q a w → wpList P ops Q' (l0.drop n) a w)
    (mono : ∀ i j u w w', C w → Rl i w w' → j ≠ i → Z.T j u w → Z.T j u w') (rel : ∀ i j u v w, Z.F i u w → Z.T j v w → Z.R i j u v ∧ Z.R j i v u)
    (H : ∀ us : Nat → Value, (∀ (i : Nat) (o : Oper), 0 ≤ i → i < n → ops[i]? = some o → StepAt P ops C Rl Z us a0 i o) ∧ EndAt ops n C Z Q us a0) :
    ∀ (m : Nat) (l : List Nat) (listed : Array Bool) (us : Nat → Value) (a : Act) (w : World), l.length = m → l.Nodup → (∀ j, j ∈ l ↔ j < n ∧ listed.getD j true = false) → InvAt .any ops n C Z a0 listed us a w → wpAny P .any ops Q' (m + (ops.size - n)) listed a w
  | 0, l, listed, us, a, w, hn, hp, hl, I => by
    obtain rfl := List.eq_nil_of_length_eq_zero hn
    have hle := S.le
    have hall : ∀ j, j < n → listed.getD j false = true := fun j hj => by
      cases hb : listed.getD j false with
      | true => rfl
      | false => exact absurd ((hl j).2 ⟨hj, getD_in (by rw [I.head.size]; omega) hb⟩) (by simp)
    have hlst : listed = Array.replicate n true ++ Array.replicate (ops.size - n) false := by
      refine Array.ext_getElem? fun j => ?_
      have hsz := I.head.size
      rw [Array.getElem?_append]
      simp only [Array.size_replicate]
      by_cases hjn : j < n
      · have := hall j hjn
        rw [if_pos hjn]
        have hj2 : j < listed.size := by omega
        simp [hj2] at this
        simp [hjn, hj2, this]
      · rw [if_neg hjn]
        by_cases hj2 : j < ops.size
        · have := I.head.tail j (by omega) hj2
          have hj3 : j < listed.size := by omega
          simp [hj3] at this
          simp [hj3, this, show j - n < ops.size - n by omega]
        · simp [show ¬ j < listed.size by omega, show ¬ j - n < ops.size - n by omega]
    rw [I.act S hall, Nat.zero_add]
    have hq := (H us).2 w I.cls (fun j hj => by
      have hoj : ops[j]? = some ops[j] := Array.getElem?_eq_getElem (by omega)
      obtain ⟨d, hd, _⟩ := S.dst j _ hj hoj
      exact (I.done j _ d hj hoj hd (hall j hj)).2) (fun i j hi hj hij => I.rel i j hi hj hij (hall i hi) (hall j hj))
    have hdl : (l0.drop n).length = ops.size - n := by rw [hops]; simp
    have := wpAny_of_seq (md := .any) (ops := ops) (Q' := Q') (l0.drop n) n listed _ w (fun j => by rw [hops]; simp [List.getElem?_drop]) (by rw [hdl, hlst]; exact S.seq) (hQ _ _ hq)
    rwa [hdl] at this
  | m + 1, l, listed, us, a, w, hn, hp, hl, I => by
    have hle := S.le
    have hsz := I.head.size
    have hunl : ∃ j, j < n ∧ listed.getD j true = false := by
      have hne : l ≠ [] := by intro e; subst e; simp at hn
      obtain ⟨j, hj⟩ := List.exists_mem_of_ne_nil l hne
      exact ⟨j, (hl j).1 hj⟩
    rw [show m + 1 + (ops.size - n) = (m + (ops.size - n)) + 1 by omega]
    refine ⟨fun h0 => ?_, fun i hi => ?_⟩
    · exfalso
      have hall : ∀ b j, j < b → j < n → listed.getD j false = true := by
        intro b
        induction b with
        | zero => intro j hj; omega
        | succ b ih =>
          intro j hj hjs
          cases hb : listed.getD j false with
          | true => rfl
          | false =>
            have hoj : ops[j]? = some ops[j] := Array.getElem?_eq_getElem (by omega)
            have : j ∈ Region.ready .any ops listed := mem_ready.2 ⟨getD_in (by omega) hb, _, hoj, fun e he hb' => by
              have := S.after j _ hjs hoj e he hb'
              exact ih e.on (by omega) (by omega)⟩
            rw [h0] at this
            cases this
      obtain ⟨j, h1, h2⟩ := hunl
      have := hall (j + 1) j (by omega) h1
      have h3 := getD_both h2
      rw [this] at h3
      cases h3
    · obtain ⟨h0, oi, hoi, hall⟩ := mem_ready.1 hi
      have hlt := (Array.getElem?_eq_some_iff.1 hoi).1
      have hin : i < n := by
        rcases S.tail with e | ⟨h1, h2, h3⟩
        · omega
        · obtain ⟨j, hj1, hj2⟩ := hunl
          exact Nat.lt_of_not_le fun hh => tail_waits h2 h3 h1 I.head _ j rfl hj1 hj2 i hh hi
      obtain ⟨d, hd, hdN⟩ := S.dst i oi hin hoi
      have hwait : ∀ j, Region.waitsFor .any ops i j = true → listed.getD j false = true ∧ j < i := fun j hj => by
        obtain ⟨oj, hoj, e, he, hb, rfl⟩ := Region.waitsFor_spec hj
        obtain rfl : oj = oi := Option.some.inj (hoj.symm.trans hoi)
        exact ⟨hall e he hb, S.after i oj hin hoj e he hb⟩
      have hT : ∀ j, Region.waitsFor .any ops i j = true → Z.T j (us j) w := fun j hj => by
        have h1 := hwait j hj
        have hoj : ops[j]? = some ops[j] := Array.getElem?_eq_getElem (by omega)
        obtain ⟨e, he, _⟩ := S.dst j _ (by omega) hoj
        exact (I.done j _ e (by omega) hoj he h1.1).2
      have h1 := (H us).1 i oi (Nat.zero_le _) hin hoi w I.cls (fun j hj _ => hT j hj) (fun j hj => (hwait j hj).2)
      have h2 := wpOp_of_list (R := fun u w' => (C w' ∧ Rl i w w') ∧ Z.T i u w' ∧ Z.F i u w) hoi hd h1
      have h3 := wpOp_agree (R := fun u w' => (C w' ∧ Rl i w w') ∧ Z.T i u w' ∧ Z.F i u w) (a2 := a) hoi (fun cs b => Region.noSelect_spec S.sel i oi cs b hoi) hd (by rw [layTo_size]; exact hdN) (by rw [layTo_defers, I.defers]) (fun x hx => by
        by_cases hx' : ∃ (j : Nat) (oj : Oper), j < n ∧ ops[j]? = some oj ∧ oj.dst = some x
        · obtain ⟨j, oj, hjn, hj, hjd⟩ := hx'
          obtain ⟨g1, g2⟩ := S.look i j oi oj x hin hjn hoi hj hjd hx
          rw [layTo_at S rfl hj hjd i g2 (by omega), (I.done j oj x hjn hj hjd (hwait j g1).1).1]
        · have hno : ∀ (j : Nat) (oj : Oper), j < n → ops[j]? = some oj → oj.dst ≠ some x := fun j oj hjn hj hjd => hx' ⟨j, oj, hjn, hj, hjd⟩
          rw [I.old x hno, layTo_old i fun j hj => ?_]
          cases ho : ops[j]? with
          | none => simp
          | some oj => simpa using hno j oj (by omega) ho) h2
      refine wpOp_mono ?_ (wpOp_exit (Q' := Q') h3)
      rintro a' w' ⟨u, rfl, ⟨hC', hcl⟩, hTi, hFi⟩
      have hil : i ∈ l := (hl i).2 ⟨hin, h0⟩
      have hTd : ∀ j, j < n → listed.getD j false = true → Z.T j (us j) w := fun j hj hjl => by
        have hoj : ops[j]? = some ops[j] := Array.getElem?_eq_getElem (by omega)
        obtain ⟨e, he, _⟩ := S.dst j _ hj hoj
        exact (I.done j _ e hj hoj he hjl).2
      refine wpAny_of_inv hops S hQ mono rel H m (l.erase i) _ (upd us i u) _ w' (by rw [List.length_erase_of_mem hil, hn]; rfl) (hp.erase i) (fun j => ?_) ⟨hC', I.head.set hi hin, by rw [hd]; simp [Act.put, I.size], by rw [hd]; exact I.defers, fun x hx => ?_, fun j oj x hjn hj hjx hjl => ?_, fun j k hjn hkn hjk hjl hkl => ?_⟩
      · rw [hp.mem_erase_iff, hl j]
        by_cases hij : j = i
        · subst hij
          simp [hsz, hlt]
        · rw [getD_set_ne true (fun e => hij e.symm)]
          simp [hij]
      · have hne : d ≠ x := fun e => hx i oi hin hoi (by rw [hd, e])
        rw [hd]
        simp only [Act.put, Array.getElem?_setIfInBounds_ne hne]
        exact I.old x hx
      · by_cases hij : j = i
        · subst hij
          obtain rfl : oj = oi := Option.some.inj (hj.symm.trans hoi)
          obtain rfl : d = x := Option.some.inj (hd.symm.trans hjx)
          refine ⟨?_, ?_⟩
          · rw [hd]
            simp [Act.put, I.size, hdN, upd]
          · simpa [upd] using hTi
        · rw [getD_set_ne false (fun e => hij e.symm)] at hjl
          obtain ⟨g1, g2⟩ := I.done j oj x hjn hj hjx hjl
          have hne : d ≠ x := fun e => hij (S.own i j oi oj hin hjn hoi hj (by rw [hd, hjx, e]))
          refine ⟨?_, ?_⟩
          · rw [hd]
            simp only [Act.put, Array.getElem?_setIfInBounds_ne hne]
            simpa [upd, hij] using g1
          · simpa [upd, hij] using mono i j _ w w' I.cls hcl hij g2
      · by_cases hji : j = i
        · subst hji
          rw [getD_set_ne false hjk] at hkl
          have := (rel j k u (us k) w hFi (hTd k hkn hkl)).1
          simpa [upd, Ne.symm hjk] using this
        · rw [getD_set_ne false (fun e => hji e.symm)] at hjl
          by_cases hki : k = i
          · subst hki
            have := (rel k j u (us j) w hFi (hTd j hjn hjl)).2
            simpa [upd, hji] using this
          · rw [getD_set_ne false (fun e => hki e.symm)] at hkl
            simpa [upd, hji, hki] using I.rel j k hjn hkn hjk hjl hkl

/-- **The first n operations, each walked once in the text's order, serve every order; the others come in one.** C: a class of worlds; Rl i: what operation i may change, which leaves what is said of the others. -/
theorem wp_region_invr {id : Nat} {Q : Exit → Act → World → Prop} {a : Act} {w : World} {l : List Oper} (C : World → Prop) (Rl : Nat → World → World → Prop) (n : Nat) (Z : Says) (N : Nat) (hm : P.follows .mixedOrders = true) (hN : a.tmps.size = N) (hB : invB .any l.toArray n N = true)
    (hC : C { w with drawn := w.drawn + 1 }) (mono : ∀ i j u w w', C w → Rl i w w' → j ≠ i → Z.T j u w → Z.T j u w') (rel : ∀ i j u v w, Z.F i u w → Z.T j v w → Z.R i j u v ∧ Z.R j i v u)
    (h : wpInv P l.toArray C Rl Z (fun a' w' => wpList P l.toArray Q (l.drop n) a' w') (l.take n) 0 (fun _ => undef) a) : (Code.region id l.toArray true).wp P Q a w := by
  subst hN
  refine wp_region_any hm ?_
  have S := invB_spec hB
  have hle : n ≤ l.length := by simpa using S.le
  have htl : (l.take n).length = n := by simp; omega
  have := wpAny_of_inv (C := C) (Rl := Rl) (Z := Z) (Q := fun a' w' => wpList P l.toArray Q (l.drop n) a' w') (Q' := Q) rfl S (fun _ _ h => h) mono rel (fun us => inv_at n us a (l.take n) 0 (fun _ => undef) (fun j hj => by
    have : j < n := by rw [htl] at hj; exact hj
    simp [this]) (by rw [htl]; omega) (fun j hj => absurd hj (Nat.not_lt_zero _)) h) n (List.range n) (Array.replicate l.toArray.size false) (fun _ => undef) a _ (by simp) List.nodup_range (fun j => ?_) ⟨hC, ⟨by simp, fun j oj _ hl => (by rw [getD_replicate_false] at hl; cases hl), fun t _ ht => getD_in (by simpa using ht) (getD_replicate_false _ _)⟩, rfl, rfl, fun _ _ => rfl, fun j oj d hj _ hd hl => ?_, fun i j _ _ _ hl => ?_⟩
  · rwa [show n + (l.toArray.size - n) = l.toArray.size by simp; omega] at this
  · rw [List.mem_range]
    constructor
    · intro hj
      have hj' : j < l.length := by omega
      exact ⟨hj, by simp [hj']⟩
    · exact fun hj => hj.1
  · rw [getD_replicate_false] at hl
    cases hl
  · rw [getD_replicate_false] at hl
    cases hl

/-- The same where nothing old is changed. -/
theorem wp_region_invs {id : Nat} {Q : Exit → Act → World → Prop} {a : Act} {w0 : World} {x : Ext w0} {l : List Oper} (n : Nat) (Z : Says) (N : Nat) (hm : P.follows .mixedOrders = true) (hN : a.tmps.size = N) (hB : invB .any l.toArray n N = true)
    (mono : ∀ j u w w', Cls w w' → Z.T j u w → Z.T j u w') (rel : ∀ i j u v w, Z.F i u w → Z.T j v w → Z.R i j u v ∧ Z.R j i v u)
    (h : wpInv P l.toArray (fun w' => ∃ x : Ext w0, w' = x.val) (fun _ => Cls) Z (fun a' w' => wpList P l.toArray Q (l.drop n) a' w') (l.take n) 0 (fun _ => undef) a) : (Code.region id l.toArray true).wp P Q a x.val := by
  obtain ⟨y, hy⟩ := Cls.step x (Cls.start x.val)
  exact wp_region_invr (fun w' => ∃ x : Ext w0, w' = x.val) (fun _ => Cls) n Z N hm hN hB ⟨y, hy⟩ (fun _ j u w w' _ hc _ => mono j u w w' hc) rel h

/-- The same where nothing is said of two values, and nothing comes behind. -/
theorem wp_region_inv {id : Nat} {Q : Exit → Act → World → Prop} {a : Act} {w0 : World} {x : Ext w0} {l : List Oper} (T : Nat → Value → World → Prop) (N : Nat) (hm : P.follows .mixedOrders = true) (hN : a.tmps.size = N) (hB : invB .any l.toArray l.length N = true)
    (mono : ∀ j u w w', Cls w w' → T j u w → T j u w')
    (h : wpInv P l.toArray (fun w' => ∃ x : Ext w0, w' = x.val) (fun _ => Cls) ⟨T, fun _ _ _ => True, fun _ _ _ _ => True⟩ (fun a' w' => Q .normal a' w') l 0 (fun _ => undef) a) : (Code.region id l.toArray true).wp P Q a x.val :=
  wp_region_invs l.length ⟨T, fun _ _ _ => True, fun _ _ _ _ => True⟩ N hm hN hB mono (fun _ _ _ _ _ _ _ => ⟨trivial, trivial⟩) (by simpa [wpList] using h)
end
end Go.Proofs.Ythbdkhmgopahbaa
