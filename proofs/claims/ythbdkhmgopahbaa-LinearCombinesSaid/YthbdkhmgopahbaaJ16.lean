/-
  Regions that draw their order, whose calls come one behind the other and hand back what lies in new memory: one walk in the order of the text serves every order. What floats between the calls (loads, arithmetic) is shown once for all worlds of a class; each call is walked in its own world. Conditions: the operations that make or write something wait for one another; what floats does so in every world of the class.
-/
import Derived.Test.YthbdkhmgopahbaaJ01
namespace Go.Proofs.Ythbdkhmgopahbaa
open Go Go.RowKit

/-- An operation that makes nothing and writes nothing. -/
def calm (o : Oper) : Bool := match o.op with
  | .move _ => true
  | .assign _ => true
  | .pick _ _ _ => true
  | .load _ _ => true
  | .binOp _ _ _ _ _ => true
  | .unOp _ _ _ => true
  | .fieldAddr _ _ _ => true
  | .field _ _ _ => true
  | .indexAddr _ _ _ => true
  | .index _ _ _ => true
  | .extract _ _ => true
  | .slice _ _ _ _ _ => true
  | .convert _ _ _ => true
  | .call c => (match c.callee with | .builtin .len => true | _ => false)
  | _ => false

def NoExit : Exit → Act → World → Prop := fun _ _ _ => False
theorem noExit_out : ¬ LetsOut NoExit := fun ⟨_, _, h⟩ => h

section
variable {P : Program} {ops : Array Oper} {md : Region.Mode} {C : World → Prop}

theorem not_enter (s : Sem Value) (w : World) (f : FuncId) (args : Array Value) (w' : World) : (do pure (Next.value (← s)) : Sem Next).run P w ≠ .ok (.enter f args) w' := by
  intro h
  simp only [Sem.run_bind, Sem.run_pure] at h
  cases hs : s.run P w <;> rw [hs] at h <;> simp [Result.andThen] at h
theorem calm_not_enter {o : Oper} {ρ : Operand → Value} (hc : calm o = true) (w : World) (f : FuncId) (args : Array Value) (w' : World) : (execOp ρ o).run P w ≠ .ok (.enter f args) w' := by
  obtain ⟨dst, op, type, pos, after, guard⟩ := o
  cases op
  case pick c0 a0 b0 =>
    intro h
    simp only [execOp, Sem.run_bind, Sem.run_pure] at h
    cases hs : (asBool (ρ c0)).run P w <;> rw [hs] at h <;> simp [Result.andThen] at h
  case call c =>
    cases c with
    | mk callee ar ats =>
      cases callee with
      | builtin b =>
        cases b <;> simp [calm] at hc
        simp only [execOp, resolve, Sem.run_bind, Sem.run_pure, Result.andThen_ok, invoke, builtin]
        intro h
        cases hs : (Builtin.len_ ats type (Array.map ρ ar)).run P w <;> rw [hs] at h <;> simp [Result.andThen] at h
      | _ => simp [calm] at hc
  all_goals first | (simp [calm] at hc; done) | (simp only [execOp]; exact not_enter _ _ _ _ _) | (simp [execOp]; done)
theorem calm_run {o : Oper} {a : Act} {v : Value} {w : World} (hc : calm o = true) (h : o.quietAt P a C w v) :
    (execOp a.eval o).run P w = .ok (.value v) w ∨ ((execOp a.eval o).run P w = .ok .skip w ∧ v = undef) := by
  unfold Oper.quietAt at h
  have hn := calm_not_enter (P := P) (ρ := a.eval) hc w
  generalize hr : (execOp a.eval o).run P w = r at h hn
  cases r with
  | ok n w' =>
    cases n <;> simp only [Oper.quietUpon] at h
    case value u => obtain ⟨rfl, rfl⟩ := h; exact .inl rfl
    case skip => obtain ⟨rfl, rfl⟩ := h; exact .inr ⟨rfl, rfl⟩
    case enter f args => exact absurd rfl (hn f args w')
  | halt x w' => simp only [Oper.quietUpon] at h
theorem yields_one {o : Oper} {a : Act} {v u : Value} {w : World} (hw : C w) (hc : calm o = true) (h : YieldsIn P ops C o v a) (h' : YieldsIn P ops C o u a) : v = u := by
  rcases h with ⟨h1, h2⟩ | ⟨h1, rfl⟩ <;> rcases h' with ⟨g1, g2⟩ | ⟨g1, rfl⟩
  · rcases calm_run hc (h2 w hw) with e | ⟨e, rfl⟩ <;> rcases calm_run hc (g2 w hw) with f | ⟨f, rfl⟩ <;> rw [e] at f <;> simp_all
  · rw [h1] at g1; cases g1
  · rw [h1] at g1; cases g1
  · rfl
/-- A calm operation, carried out in its own world. -/
theorem wpOp_of_calm {Q : Exit → Act → World → Prop} {i : Nat} {o : Oper} {a : Act} {v : Value} {w : World} {K : Act → World → Prop} (hi : ops[i]? = some o) (hc : calm o = true) (hw : C w) (hy : YieldsIn P ops C o v a) (h : K (a.put o.dst v) w) : wpOp P ops Q i K a w := by
  unfold wpOp
  simp only [hi]
  rcases hy with ⟨h1, h2⟩ | ⟨h1, rfl⟩
  · rw [if_pos h1]
    left
    unfold Oper.wp
    rcases calm_run hc (h2 w hw) with e | ⟨e, rfl⟩ <;> rw [e] <;> exact h
  · rw [if_neg (by rw [h1]; exact Bool.false_ne_true)]
    exact h

/-- The second state differs from the first in the operation's own slot at most. -/
def Moved (o : Oper) (a a' : Act) : Prop := ∃ u ds, a' = ({ a with defers := ds } : Act).put o.dst u
theorem Moved.yields {o oi : Oper} {a a' : Act} {v : Value} (h : Moved o a a') (hap : oi.apart ops o = true) (hs : ∀ cs b, oi.op ≠ .select cs b) (hy : YieldsIn P ops C oi v a) : YieldsIn P ops C oi v a' := by
  obtain ⟨u, ds, rfl⟩ := h
  have h3 := (Oper.apart_spec hap).2.2
  exact YieldsIn.of_same (a := ({ a with defers := ds } : Act)) (hy.of_same rfl rfl) (execOp_put oi hs _ _ _ h3) (wanted_put oi _ _ _ h3)
theorem Moved.yields' {o oi : Oper} {a a' : Act} {v : Value} (h : Moved o a a') (hap : oi.apart ops o = true) (hs : ∀ cs b, oi.op ≠ .select cs b) (hy : YieldsIn P ops C oi v a') : YieldsIn P ops C oi v a := by
  obtain ⟨u, ds, rfl⟩ := h
  have h3 := (Oper.apart_spec hap).2.2
  have : YieldsIn P ops C oi v ({ a with defers := ds } : Act) := hy.of_same (execOp_put oi hs ({ a with defers := ds } : Act) _ u h3).symm (wanted_put oi ({ a with defers := ds } : Act) _ u h3).symm
  exact this.of_same rfl rfl
theorem put_defers' (a : Act) (ds : List Deferred) (x : Option Tmp) (v : Value) : ({ a.put x v with defers := ds } : Act) = ({ a with defers := ds } : Act).put x v := by cases x <;> rfl

/-- What another slot holds makes no difference to an operation that does not look there. -/
theorem reput {j : Nat} {oj : Oper} {x : Option Tmp} {v : Value} {a : Act} {w : World} {K K' : Act → World → Prop} (hj : ops[j]? = some oj) (hsj : ∀ cs b, oj.op ≠ .select cs b) (h1 : ∀ d, x = some d → d ∉ oj.looksAt ops) (h2 : ∀ d, x = some d → oj.dst ≠ some d)
    (hK : ∀ a' w', Moved oj a a' → K a' w' → K' (a'.put x v) w') (h : wpOp P ops NoExit j K a w) : wpOp P ops NoExit j K' (a.put x v) w := by
  unfold wpOp at *
  simp only [hj] at *
  rw [wanted_put oj a x v h1]
  split
  · rename_i hw
    rw [if_pos hw] at h
    refine .inl ?_
    rcases h with h | ⟨_, h⟩
    · unfold Oper.wp at *
      rw [execOp_put oj hsj a x v h1]
      generalize (execOp a.eval oj).run P w = r at *
      have key : ∀ (ds : List Deferred) (u : Value) (w' : World), K (({ a with defers := ds } : Act).put oj.dst u) w' → K' (({ a.put x v with defers := ds } : Act).put oj.dst u) w' := fun ds u w' hk => by
        have := hK _ w' ⟨u, ds, rfl⟩ hk
        rw [put_defers', Act.put_comm _ v u h2]
        exact this
      cases r with
      | ok n w' =>
        cases n <;> simp only [Oper.upon] at h ⊢
        case value u => exact (by have := key a.defers u w' h; cases x <;> exact this)
        case skip => exact (by have := key a.defers _ w' h; cases x <;> exact this)
        case defer d =>
          have := key (d :: a.defers) _ w' h
          cases x <;> exact this
        case enter f args =>
          refine Calls.mono h fun e w'' he => ?_
          cases e with
          | returned u => exact (by have := key a.defers u w'' he; cases x <;> exact this)
          | panicked c => exact he
          | outgrown => exact he
        case row row args => exact Rows.mono h fun u w'' he => (by have := key a.defers u w'' he; cases x <;> exact this)
      | halt y w' => cases y <;> simp only [Oper.upon] at h ⊢; exact h
    · exact absurd h noExit_out
  · rename_i hw
    rw [if_neg hw] at h
    have := hK _ w ⟨undef, a.defers, rfl⟩ h
    rw [Act.put_comm a v undef h2]
    exact this
theorem unput {j : Nat} {oj : Oper} {x : Option Tmp} {v : Value} {a : Act} {w : World} {K K' : Act → World → Prop} (hj : ops[j]? = some oj) (hsj : ∀ cs b, oj.op ≠ .select cs b) (h1 : ∀ d, x = some d → d ∉ oj.looksAt ops) (h2 : ∀ d, x = some d → oj.dst ≠ some d)
    (hK : ∀ a' w', Moved oj a a' → K (a'.put x v) w' → K' a' w') (h : wpOp P ops NoExit j K (a.put x v) w) : wpOp P ops NoExit j K' a w := by
  unfold wpOp at *
  simp only [hj] at *
  rw [wanted_put oj a x v h1] at h
  split
  · rename_i hw
    rw [if_pos hw] at h
    refine .inl ?_
    rcases h with h | ⟨_, h⟩
    · unfold Oper.wp at *
      rw [execOp_put oj hsj a x v h1] at h
      generalize (execOp a.eval oj).run P w = r at *
      have key : ∀ (ds : List Deferred) (u : Value) (w' : World), K (({ a.put x v with defers := ds } : Act).put oj.dst u) w' → K' (({ a with defers := ds } : Act).put oj.dst u) w' := fun ds u w' hk => by
        refine hK _ w' ⟨u, ds, rfl⟩ ?_
        rw [put_defers', Act.put_comm _ v u h2] at hk
        exact hk
      cases r with
      | ok n w' =>
        cases n <;> simp only [Oper.upon] at h ⊢
        case value u => exact key a.defers u w' (by cases x <;> exact h)
        case skip => exact key a.defers _ w' (by cases x <;> exact h)
        case defer d => exact key (d :: a.defers) _ w' (by cases x <;> exact h)
        case enter f args =>
          refine Calls.mono h fun e w'' he => ?_
          cases e with
          | returned u => exact key a.defers u w'' (by cases x <;> exact he)
          | panicked c => exact he
          | outgrown => exact he
        case row row args => exact Rows.mono h fun u w'' he => key a.defers u w'' (by cases x <;> exact he)
      | halt y w' => cases y <;> simp only [Oper.upon] at h ⊢; exact h
    · exact absurd h noExit_out
  · rename_i hw
    rw [if_neg hw] at h
    refine hK _ w ⟨undef, a.defers, rfl⟩ ?_
    rw [Act.put_comm a v undef h2] at h
    exact h
/-- Something comes of it. -/
theorem wpOp_some {j : Nat} {oj : Oper} {a : Act} {w : World} {K : Act → World → Prop} (hj : ops[j]? = some oj) (h : wpOp P ops NoExit j K a w) : ∃ a' w', Moved oj a a' ∧ K a' w' := by
  unfold wpOp at h
  simp only [hj] at h
  split at h
  · rcases h with h | ⟨_, h⟩
    · unfold Oper.wp at h
      generalize (execOp a.eval oj).run P w = r at *
      cases r with
      | ok n w' =>
        cases n <;> simp only [Oper.upon] at h
        case value u => exact ⟨_, _, ⟨u, a.defers, rfl⟩, h⟩
        case skip => exact ⟨_, _, ⟨undef, a.defers, rfl⟩, h⟩
        case defer d => exact ⟨_, _, ⟨undef, d :: a.defers, rfl⟩, h⟩
        case enter f args =>
          obtain ⟨e, w'', fr, he, _⟩ := h []
          cases e with
          | returned u => exact ⟨_, _, ⟨u, a.defers, rfl⟩, he⟩
          | panicked c => exact he.elim
          | outgrown => exact absurd he noExit_out
        case row row args =>
          obtain ⟨v, w'', he, _⟩ := h (Frame.enter P 0 #[] .normal) []
          exact ⟨_, _, ⟨v, a.defers, rfl⟩, he⟩
      | halt y w' => cases y <;> simp only [Oper.upon] at h; exact h.elim
    · exact absurd h noExit_out
  · exact ⟨_, _, ⟨undef, a.defers, rfl⟩, h⟩

/-! ### The lexical walk over what is left -/
/-- Operation number i comes up: a calm one in its own world, another one in whatever world it leaves; but for the last one the world is of the class. -/
def stepL (P : Program) (ops : Array Oper) (C : World → Prop) (i : Nat) (K : Act → World → Prop) (a : Act) (w : World) : Prop :=
  match ops[i]? with
  | none => False
  | some o => if calm o = true then qOp P ops C i (fun a' => K a' w) a else wpOp P ops NoExit i (fun a' w' => (i + 1 = ops.size ∨ C w') ∧ K a' w') a w
def lexI (P : Program) (ops : Array Oper) (C : World → Prop) (Q : Act → World → Prop) : List Nat → Act → World → Prop
  | [], a, w => Q a w
  | i :: l, a, w => stepL P ops C i (lexI P ops C Q l) a w

theorem stepL_calm {i : Nat} {o : Oper} {K : Act → World → Prop} {a : Act} {w : World} (hi : ops[i]? = some o) (hc : calm o = true) : stepL P ops C i K a w ↔ ∃ v, YieldsIn P ops C o v a ∧ K (a.put o.dst v) w := by
  unfold stepL
  simp only [hi, if_pos hc]
  constructor
  · intro h; exact yieldsIn_of_qOp hi h
  · rintro ⟨v, hy, h⟩; exact hy.qOp hi h
theorem stepL_free {i : Nat} {o : Oper} {K : Act → World → Prop} {a : Act} {w : World} (hi : ops[i]? = some o) (hc : ¬ calm o = true) : stepL P ops C i K a w ↔ wpOp P ops NoExit i (fun a' w' => (i + 1 = ops.size ∨ C w') ∧ K a' w') a w := by
  unfold stepL
  simp only [hi, if_neg hc]

/-- Operation j and each one before it that is left have nothing to do with one another. -/
def Clear (ops : Array Oper) (l : List Nat) (j : Nat) (oj : Oper) : Prop := ∀ i ∈ l, i < j → ∃ oi, ops[i]? = some oi ∧ oj.apart ops oi = true ∧ oi.apart ops oj = true

section
variable {Q : Act → World → Prop} {j : Nat} {oj : Oper}
theorem Clear.tail {i : Nat} {r : List Nat} (h : Clear ops (i :: r) j oj) : Clear ops r j oj := fun k hk => h k (List.mem_cons_of_mem _ hk)

theorem lex_yields (hs : Region.noSelect ops = true) (hj : ops[j]? = some oj) (hc : calm oj = true) : ∀ (l : List Nat) (a : Act) (w : World), l.Pairwise (· < ·) → j ∈ l → Clear ops l j oj → lexI P ops C Q l a w → ∃ v, YieldsIn P ops C oj v a
  | [], _, _, _, hm, _, _ => by simp at hm
  | i :: r, a, w, hp, hm, hcl, h => by
    by_cases hij : i = j
    · subst hij
      obtain ⟨v, hv, _⟩ := (stepL_calm hj hc).1 h
      exact ⟨v, hv⟩
    · have hmr : j ∈ r := by simpa [Ne.symm hij] using hm
      have hlt : i < j := (List.pairwise_cons.1 hp).1 j hmr
      obtain ⟨oi, hi, hap, hap'⟩ := hcl i (List.mem_cons_self ..) hlt
      have hsj := Region.noSelect_spec hs j oj
      by_cases hci : calm oi = true
      · obtain ⟨u, _, hK⟩ := (stepL_calm hi hci).1 h
        obtain ⟨v, hv⟩ := lex_yields hs hj hc r _ w (List.pairwise_cons.1 hp).2 hmr hcl.tail hK
        exact ⟨v, Moved.yields' ⟨u, a.defers, rfl⟩ hap (fun cs b => hsj cs b hj) hv⟩
      · obtain ⟨a', w', hmv, _, hK⟩ := wpOp_some hi ((stepL_free hi hci).1 h)
        obtain ⟨v, hv⟩ := lex_yields hs hj hc r a' w' (List.pairwise_cons.1 hp).2 hmr hcl.tail hK
        exact ⟨v, hmv.yields' hap (fun cs b => hsj cs b hj) hv⟩

theorem pull_calm (hs : Region.noSelect ops = true) (hj : ops[j]? = some oj) (hc : calm oj = true) {v : Value} : ∀ (l : List Nat) (a : Act) (w : World), l.Pairwise (· < ·) → j ∈ l → Clear ops l j oj → C w → YieldsIn P ops C oj v a →
    lexI P ops C Q l a w → lexI P ops C Q (l.erase j) (a.put oj.dst v) w
  | [], _, _, _, hm, _, _, _, _ => by simp at hm
  | i :: r, a, w, hp, hm, hcl, hw, hy, h => by
    by_cases hij : i = j
    · subst hij
      obtain ⟨u, hu, hK⟩ := (stepL_calm hj hc).1 h
      obtain rfl := yields_one hw hc hy hu
      simpa using hK
    · have hmr : j ∈ r := by simpa [Ne.symm hij] using hm
      have hlt : i < j := (List.pairwise_cons.1 hp).1 j hmr
      obtain ⟨oi, hi, hap, hap'⟩ := hcl i (List.mem_cons_self ..) hlt
      have hsj := Region.noSelect_spec hs j oj
      have hsi := Region.noSelect_spec hs i oi
      obtain ⟨p1, p2, p3⟩ := Oper.apart_spec hap
      rw [List.erase_cons_tail (by simpa using hij)]
      by_cases hci : calm oi = true
      · obtain ⟨u, hu, hK⟩ := (stepL_calm hi hci).1 h
        have hy' := Moved.yields ⟨u, a.defers, rfl⟩ hap (fun cs b => hsj cs b hj) hy
        have := pull_calm hs hj hc r _ w (List.pairwise_cons.1 hp).2 hmr hcl.tail hw hy' hK
        refine (stepL_calm hi hci).2 ⟨u, Moved.yields ⟨v, a.defers, rfl⟩ hap' (fun cs b => hsi cs b hi) hu, ?_⟩
        rw [Act.put_comm a v u p2]
        exact this
      · refine (stepL_free hi hci).2 (reput hi (fun cs b => hsi cs b hi) p1 p2 ?_ ((stepL_free hi hci).1 h))
        rintro a' w' hmv ⟨hw', hK⟩
        have hw'' : C w' := hw'.resolve_left (by have := (Array.getElem?_eq_some_iff.1 hj).1; omega)
        exact ⟨.inr hw'', pull_calm hs hj hc r a' w' (List.pairwise_cons.1 hp).2 hmr hcl.tail hw'' (hmv.yields hap (fun cs b => hsj cs b hj) hy) hK⟩

theorem pull_free (hs : Region.noSelect ops = true) (hj : ops[j]? = some oj) (hc : ¬ calm oj = true) : ∀ (l : List Nat) (a : Act) (w : World), l.Pairwise (· < ·) → j ∈ l → Clear ops l j oj →
    (∀ i ∈ l, i < j → ∀ oi, ops[i]? = some oi → calm oi = true) → lexI P ops C Q l a w → stepL P ops C j (lexI P ops C Q (l.erase j)) a w
  | [], _, _, _, hm, _, _, _ => by simp at hm
  | i :: r, a, w, hp, hm, hcl, hq, h => by
    by_cases hij : i = j
    · subst hij
      rw [List.erase_cons_head]
      exact h
    · have hmr : j ∈ r := by simpa [Ne.symm hij] using hm
      have hlt : i < j := (List.pairwise_cons.1 hp).1 j hmr
      obtain ⟨oi, hi, hap, hap'⟩ := hcl i (List.mem_cons_self ..) hlt
      have hsj := Region.noSelect_spec hs j oj
      have hsi := Region.noSelect_spec hs i oi
      have hci := hq i (List.mem_cons_self ..) hlt oi hi
      obtain ⟨p1, p2, p3⟩ := Oper.apart_spec hap'
      obtain ⟨u, hu, hK⟩ := (stepL_calm hi hci).1 h
      have := pull_free hs hj hc r _ w (List.pairwise_cons.1 hp).2 hmr hcl.tail (fun k hk => hq k (List.mem_cons_of_mem _ hk)) hK
      rw [List.erase_cons_tail (by simpa using hij)]
      refine (stepL_free hj hc).2 (unput hj (fun cs b => hsj cs b hj) p1 p2 ?_ ((stepL_free hj hc).1 this))
      rintro a' w' hmv ⟨hw', hK'⟩
      exact ⟨hw', (stepL_calm hi hci).2 ⟨u, hmv.yields hap' (fun cs b => hsi cs b hi) hu, hK'⟩⟩
end

/-! ### What is asked of the region, by the kernel -/
def wLink (md : Region.Mode) (ops : Array Oper) : Nat → Nat → Nat → Bool
  | 0, _, _ => false
  | n + 1, j, i => match ops[j]? with
    | some oj => oj.after.any fun e => Region.binds md e && (e.on == i || (decide (i < e.on) && wLink md ops n e.on i))
    | none => false
def linB (md : Region.Mode) (ops : Array Oper) : Bool :=
  Region.noSelect ops && decide (0 < ops.size) && Region.sinkB md ops (ops.size - 1) &&
  (List.range ops.size).all fun j => match ops[j]? with
    | none => false
    | some oj => oj.after.all (fun e => !Region.binds md e || decide (e.on < j)) &&
      (List.range j).all fun i => match ops[i]? with
        | none => false
        | some oi => Region.waitsFor md ops j i || (oj.apart ops oi && oi.apart ops oj && (calm oi || calm oj)) || wLink md ops ops.size j i

def Closed (md : Region.Mode) (ops : Array Oper) (listed : Array Bool) : Prop := ∀ j oj, ops[j]? = some oj → listed.getD j false = true → ∀ e ∈ oj.after, Region.binds md e = true → listed.getD e.on false = true
theorem link_listed {listed : Array Bool} (hcl : Closed md ops listed) : ∀ (n j i : Nat) (oj : Oper), ops[j]? = some oj → wLink md ops n j i = true → (∀ e ∈ oj.after, Region.binds md e = true → listed.getD e.on false = true) → listed.getD i false = true
  | 0, _, _, _, _, h, _ => by simp [wLink] at h
  | n + 1, j, i, oj, hj, h, hd => by
    simp only [wLink, hj] at h
    obtain ⟨e, he, hb⟩ := Array.any_eq_true'.1 h
    simp only [Bool.and_eq_true, Bool.or_eq_true, beq_iff_eq, decide_eq_true_eq] at hb
    obtain ⟨hb, h1 | ⟨h1, h2⟩⟩ := hb
    · rw [← h1]; exact hd e he hb
    · have hl := hd e he hb
      cases ho : ops[e.on]? with
      | none => cases n <;> simp [wLink, ho] at h2
      | some oe => exact link_listed hcl n e.on i oe ho h2 (hcl e.on oe ho hl)
theorem closed_set {listed : Array Bool} {i : Nat} (hcl : Closed md ops listed) (hi : i ∈ Region.ready md ops listed) : Closed md ops (listed.setIfInBounds i true) := by
  obtain ⟨_, oi, hoi, hall⟩ := mem_ready.1 hi
  intro j oj hj hl e he hb
  by_cases hij : i = j
  · subst hij
    have : oj = oi := Option.some.inj (hj.symm.trans hoi)
    subst this
    exact getD_set_true (hall e he hb)
  · rw [getD_set_ne false hij] at hl
    exact getD_set_true (hcl j oj hj hl e he hb)
theorem wpOp_exit {Q' : Exit → Act → World → Prop} {j : Nat} {K : Act → World → Prop} {a : Act} {w : World} (h : wpOp P ops NoExit j K a w) : wpOp P ops Q' j K a w := by
  unfold wpOp at *
  split at h
  · exact h
  · split at h
    · rename_i hw
      rw [if_pos hw]
      left
      rcases h with h | ⟨_, h⟩
      · unfold Oper.wp at *
        generalize (execOp a.eval _).run P w = r at *
        cases r with
        | ok n w' =>
          cases n <;> simp only [Oper.upon] at h ⊢
          case enter f args =>
            refine Calls.mono h fun e w'' he => ?_
            cases e with
            | returned u => exact he
            | panicked c => exact he.elim
            | outgrown => exact absurd he noExit_out
          all_goals exact h
        | halt y w' => cases y <;> simp only [Oper.upon] at h ⊢; exact h.elim
      · exact absurd h noExit_out
    · rename_i hw
      rw [if_neg hw]
      exact h
theorem wpAny_of_lexI {Q : Act → World → Prop} {Q' : Exit → Act → World → Prop} (hB : linB md ops = true) (hQ : ∀ a w, Q a w → Q' .normal a w) : ∀ (n : Nat) (l : List Nat) (listed : Array Bool) (a : Act) (w : World), l.length = n → l.Pairwise (· < ·) →
    (∀ j, j ∈ l ↔ j < ops.size ∧ listed.getD j true = false) → listed.size = ops.size → Closed md ops listed → (l = [] ∨ C w) → lexI P ops C Q l a w → wpAny P md ops Q' n listed a w
  | 0, l, listed, a, w, hn, _, hl, _, _, _, h => by
    obtain rfl := List.eq_nil_of_length_eq_zero hn
    refine ⟨?_, hQ _ _ h⟩
    rw [List.eq_nil_iff_forall_not_mem]
    intro j hj
    obtain ⟨h0, oj, hoj, _⟩ := mem_ready.1 hj
    have := (hl j).2 ⟨(Array.getElem?_eq_some_iff.1 hoj).1, h0⟩
    simp at this
  | n + 1, l, listed, a, w, hn, hp, hl, hsz, hcl, hw, h => by
    have hne : l ≠ [] := by intro e; subst e; simp at hn
    have hw := hw.resolve_left hne
    simp only [linB, Bool.and_eq_true, decide_eq_true_eq] at hB
    obtain ⟨⟨⟨hsel, hpos⟩, hsink⟩, hall⟩ := hB
    have hB' : linB md ops = true := by simp only [linB, Bool.and_eq_true, decide_eq_true_eq]; exact ⟨⟨⟨hsel, hpos⟩, hsink⟩, hall⟩
    have info : ∀ j oj, ops[j]? = some oj → (∀ e ∈ oj.after, Region.binds md e = true → e.on < j) ∧ ∀ i, i < j → ∃ oi, ops[i]? = some oi ∧ (Region.waitsFor md ops j i = true ∨ (oj.apart ops oi = true ∧ oi.apart ops oj = true ∧ (calm oi = true ∨ calm oj = true)) ∨ wLink md ops ops.size j i = true) := by
      intro j oj hj
      have h1 := List.all_eq_true.1 hall j (List.mem_range.2 (Array.getElem?_eq_some_iff.1 hj).1)
      simp only [hj, Bool.and_eq_true] at h1
      refine ⟨fun e he hb => ?_, fun i hi => ?_⟩
      · have := Array.all_eq_true_iff_forall_mem.1 h1.1 e he
        simpa [hb] using this
      · have h2 := List.all_eq_true.1 h1.2 i (List.mem_range.2 hi)
        cases ho : ops[i]? with
        | none => simp [ho] at h2
        | some oi =>
          simp only [ho, Bool.or_eq_true, Bool.and_eq_true] at h2
          refine ⟨oi, rfl, ?_⟩
          rcases h2 with (h2 | ⟨⟨h2, h3⟩, h4⟩) | h2
          · exact .inl h2
          · exact .inr (.inl ⟨h2, h3, h4⟩)
          · exact .inr (.inr h2)
    have getT : ∀ {k : Nat}, k < ops.size → k ∉ l → listed.getD k false = true := fun {k} hk hnk => by
      have : ¬ listed.getD k true = false := fun e => hnk ((hl k).2 ⟨hk, e⟩)
      have hk' : k < listed.size := by omega
      simp [hk'] at this ⊢
      exact this
    have getF : ∀ {k : Nat}, k ∈ l → listed.getD k false = false := fun {k} hk => getD_both ((hl k).1 hk).2
    refine ⟨fun h0 => ?_, fun j hj => ?_⟩
    · exfalso
      obtain ⟨i0, r, rfl⟩ : ∃ i0 r, l = i0 :: r := by cases l with | nil => exact absurd rfl hne | cons i r => exact ⟨i, r, rfl⟩
      obtain ⟨hi0, hu0⟩ := (hl i0).1 (List.mem_cons_self ..)
      have : i0 ∈ Region.ready md ops listed := by
        refine mem_ready.2 ⟨hu0, ops[i0], Array.getElem?_eq_getElem hi0, fun e he hb => ?_⟩
        have hlt := (info i0 _ (Array.getElem?_eq_getElem hi0)).1 e he hb
        refine getT (by omega) fun hm => ?_
        rcases List.mem_cons.1 hm with h1 | h1
        · omega
        · have := (List.pairwise_cons.1 hp).1 _ h1; omega
      rw [h0] at this
      cases this
    · obtain ⟨hu, oj, hoj, hdep⟩ := mem_ready.1 hj
      have hjs := (Array.getElem?_eq_some_iff.1 hoj).1
      have hjl : j ∈ l := (hl j).2 ⟨hjs, hu⟩
      have before : ∀ i ∈ l, i < j → ∃ oi, ops[i]? = some oi ∧ oj.apart ops oi = true ∧ oi.apart ops oj = true ∧ (calm oi = true ∨ calm oj = true) := fun i hi hij => by
        obtain ⟨oi, hoi, h1 | ⟨h1, h2, h3⟩ | h1⟩ := (info j oj hoj).2 i hij
        · obtain ⟨oj', hoj', e, he, hb, hon⟩ := Region.waitsFor_spec h1
          obtain rfl : oj' = oj := Option.some.inj (hoj'.symm.trans hoj)
          have := hdep e he hb
          rw [hon, getF hi] at this
          cases this
        · exact ⟨oi, hoi, h1, h2, h3⟩
        · have := link_listed hcl ops.size j i oj hoj h1 hdep
          rw [getF hi] at this
          cases this
      have clear : Clear ops l j oj := fun i hi hij => by
        obtain ⟨oi, hoi, h1, h2, _⟩ := before i hi hij
        exact ⟨oi, hoi, h1, h2⟩
      have step : stepL P ops C j (lexI P ops C Q (l.erase j)) a w := by
        by_cases hc : calm oj = true
        · obtain ⟨v, hv⟩ := lex_yields hsel hoj hc l a w hp hjl clear h
          exact (stepL_calm hoj hc).2 ⟨v, hv, pull_calm hsel hoj hc l a w hp hjl clear hw hv h⟩
        · refine pull_free hsel hoj hc l a w hp hjl clear (fun i hi hij oi hoi => ?_) h
          obtain ⟨oi', hoi', _, _, h3⟩ := before i hi hij
          obtain rfl : oi' = oi := Option.some.inj (hoi'.symm.trans hoi)
          exact h3.resolve_right hc
      have hnd : l.Nodup := hp.imp (fun h => Nat.ne_of_lt h)
      have rest : ∀ (a' : Act) (w' : World), (l.erase j = [] ∨ C w') → lexI P ops C Q (l.erase j) a' w' → wpAny P md ops Q' n (listed.setIfInBounds j true) a' w' := fun a' w' hw' hK => by
        refine wpAny_of_lexI hB' hQ n (l.erase j) _ a' w' ?_ (hp.sublist (List.erase_sublist ..)) (fun k => ?_) (by simpa using hsz) (closed_set hcl hj) hw' hK
        · rw [List.length_erase_of_mem hjl, hn]; rfl
        · rw [hnd.mem_erase_iff, hl k]
          by_cases hkj : j = k
          · subst hkj
            have hjl' : j < listed.size := by omega
            simp [hjl']
          · rw [getD_set_ne true hkj]
            exact ⟨fun h => h.2, fun h => ⟨fun e => hkj e.symm, h⟩⟩
      by_cases hc : calm oj = true
      · obtain ⟨v, hv, hK⟩ := (stepL_calm hoj hc).1 step
        exact wpOp_of_calm hoj hc hw hv (rest _ _ (.inr hw) hK)
      · refine wpOp_exit (wpOp_mono ?_ ((stepL_free hoj hc).1 step))
        rintro a' w' ⟨hw', hK⟩
        refine rest a' w' (hw'.imp (fun hlast => ?_) id) hK
        have inv : HeadInv md ops (ops.size - 1) listed := ⟨hsz, hcl, fun t ht ht' => by
          obtain rfl : t = j := by omega
          exact hu⟩
        have hch : Region.chainB md ops (ops.size - 1) = true := by
          unfold Region.chainB
          refine List.all_eq_true.2 fun t ht => ?_
          have := List.mem_range.1 ht
          simp; left; omega
        rw [List.eq_nil_iff_forall_not_mem]
        intro i hi
        rw [hnd.mem_erase_iff] at hi
        have hi2 := (hl i).1 hi.2
        exact tail_waits hsink hch (by omega) inv _ i rfl (by omega) hi2.2 j (by omega) hj

/-! ### The walk -/
def wpLin (P : Program) (ops : Array Oper) (C : World → Prop) (Q : Act → World → Prop) : List Oper → Act → World → Prop
  | [], a, w => Q a w
  | o :: rest, a, w => if calm o = true then wpQuiet P ops C (fun a' => wpLin P ops C Q rest a' w) [o] a
    else wpList P ops (fun e a' w' => e = .normal ∧ (rest = [] ∨ C w') ∧ wpLin P ops C Q rest a' w') [o] a w
theorem lin_nil {Q : Act → World → Prop} {a : Act} {w : World} (h : Q a w) : wpLin P ops C Q [] a w := h
theorem lin_calm {Q : Act → World → Prop} {o : Oper} {rest : List Oper} {a : Act} {w : World} (hc : calm o = true) (h : ∀ K : Act → Prop, (∀ a', wpLin P ops C Q rest a' w → K a') → wpQuiet P ops C K [o] a) : wpLin P ops C Q (o :: rest) a w := by
  unfold wpLin
  rw [if_pos hc]
  exact h _ (fun _ h => h)
theorem lin_free {Q : Act → World → Prop} {o : Oper} {rest : List Oper} {a : Act} {w : World} (hc : calm o = false) (h : ∀ K : Exit → Act → World → Prop, (∀ a' w', (rest = [] ∨ C w') → wpLin P ops C Q rest a' w' → K .normal a' w') → wpList P ops K [o] a w) : wpLin P ops C Q (o :: rest) a w := by
  unfold wpLin
  rw [if_neg (by rw [hc]; exact Bool.false_ne_true)]
  exact h _ (fun _ _ h1 h2 => ⟨rfl, h1, h2⟩)
theorem lexI_of_lin {Q : Act → World → Prop} : ∀ (l : List Oper) (k : Nat) (a : Act) (w : World), (∀ j, l[j]? = ops[k + j]?) → wpLin P ops C Q l a w → lexI P ops C Q (List.range' k l.length) a w
  | [], _, _, _, _, h => h
  | o :: rest, k, a, w, hl, h => by
    have h0 : ops[k]? = some o := by simpa using (hl 0).symm
    have hr : ∀ j, rest[j]? = ops[k + 1 + j]? := fun j => by have := hl (j + 1); simpa [Nat.add_assoc, Nat.add_comm 1 j] using this
    simp only [List.length_cons, List.range'_succ, lexI]
    unfold wpLin at h
    by_cases hc : calm o = true
    · rw [if_pos hc] at h
      have hq : qOp P ops C k (fun a' => wpLin P ops C Q rest a' w) a := by unfold qOp; simp only [h0]; simpa [wpQuiet] using h
      obtain ⟨v, hv, hK⟩ := yieldsIn_of_qOp h0 hq
      exact (stepL_calm h0 hc).2 ⟨v, hv, lexI_of_lin rest (k + 1) _ w hr hK⟩
    · rw [if_neg hc] at h
      refine (stepL_free h0 hc).2 ?_
      have hlast : rest = [] → k + 1 = ops.size := fun e => by
        subst e
        have h1 := hr 0
        have h2 := (Array.getElem?_eq_some_iff.1 h0).1
        have h3 : ops[k + 1]? = none := by simpa using h1.symm
        have := Array.getElem?_eq_none_iff.1 h3
        omega
      have key : ∀ a' w', (rest = [] ∨ C w') ∧ wpLin P ops C Q rest a' w' → (k + 1 = ops.size ∨ C w') ∧ lexI P ops C Q (List.range' (k + 1) rest.length) a' w' := fun a' w' ⟨h1, h2⟩ => ⟨h1.imp hlast id, lexI_of_lin rest (k + 1) a' w' hr h2⟩
      unfold wpOp
      simp only [h0]
      unfold wpList at h
      split
      · rename_i hw
        rw [if_pos hw] at h
        left
        rcases h with h | ⟨_, b, w1, h⟩
        · unfold Oper.wp at *
          generalize (execOp a.eval o).run P w = r at *
          cases r with
          | ok n w' =>
            cases n <;> simp only [Oper.upon, wpList] at h ⊢
            case enter f args =>
              refine Calls.mono h fun e w'' he => ?_
              cases e with
              | returned u => exact key _ _ he.2
              | panicked c => exact absurd he.1 (by simp)
              | outgrown => obtain ⟨b, w1, he⟩ := he; exact absurd he.1 (by simp)
            case row row args => exact Rows.mono h fun u w'' he => key _ _ he.2
            all_goals exact key _ _ h.2
          | halt y w' => cases y <;> simp only [Oper.upon] at h ⊢; exact absurd h.1 (by simp)
        · exact absurd h.1 (by simp)
      · rename_i hw
        rw [if_neg hw] at h
        exact key _ _ h.2

/-- **One walk of the text's order serves every order.** -/
theorem wp_region_lin {id : Nat} {Q : Exit → Act → World → Prop} {a : Act} {w : World} {l : List Oper} (hm : P.follows .mixedOrders = true) (hB : linB .any l.toArray = true)
    (h : ∀ x : Ext w, wpLin P l.toArray (fun w' => ∃ x : Ext w, w' = x.val) (fun a' w' => Q .normal a' w') l a x.val) : (Code.region id l.toArray true).wp P Q a w := by
  obtain ⟨x, hx⟩ := Cls.start w
  refine wp_region_any hm ?_
  have h1 := lexI_of_lin (C := fun w' => ∃ x : Ext w, w' = x.val) l 0 a x.val (by simp) (h x)
  rw [hx]
  refine wpAny_of_lexI (C := fun w' => ∃ x : Ext w, w' = x.val) (Q := fun a' w' => Q .normal a' w') hB (fun _ _ h => h) _ (List.range' 0 l.length) _ a x.val (by simp) List.pairwise_lt_range' (fun j => ?_) (by simp) ?_ (.inr ⟨x, rfl⟩) h1
  · rw [List.mem_range'_1]
    simp only [List.size_toArray]
    constructor
    · intro hj
      have : j < l.length := by omega
      exact ⟨this, by simp [this]⟩
    · intro hj; omega
  · intro j oj hj hl
    rw [getD_replicate_false] at hl
    cases hl
/-- The same from a world that is itself a later world of w0. -/
theorem wp_region_lin_on {id : Nat} {Q : Exit → Act → World → Prop} {a : Act} {w0 : World} {x : Ext w0} {l : List Oper} (hm : P.follows .mixedOrders = true) (hB : linB .any l.toArray = true)
    (h : ∀ y : Ext w0, wpLin P l.toArray (fun w' => ∃ x : Ext w0, w' = x.val) (fun a' w' => Q .normal a' w') l a y.val) : (Code.region id l.toArray true).wp P Q a x.val := by
  obtain ⟨y, hy⟩ := Cls.step x (Cls.start x.val)
  refine wp_region_any hm ?_
  have h1 := lexI_of_lin (C := fun w' => ∃ x : Ext w0, w' = x.val) l 0 a y.val (by simp) (h y)
  rw [hy]
  refine wpAny_of_lexI (C := fun w' => ∃ x : Ext w0, w' = x.val) (Q := fun a' w' => Q .normal a' w') hB (fun _ _ h => h) _ (List.range' 0 l.length) _ a y.val (by simp) List.pairwise_lt_range' (fun j => ?_) (by simp) ?_ (.inr ⟨y, rfl⟩) h1
  · rw [List.mem_range'_1]
    simp only [List.size_toArray]
    constructor
    · intro hj
      have : j < l.length := by omega
      exact ⟨this, by simp [this]⟩
    · intro hj; omega
  · intro j oj hj hl
    rw [getD_replicate_false] at hl
    cases hl
end
end Go.Proofs.Ythbdkhmgopahbaa
