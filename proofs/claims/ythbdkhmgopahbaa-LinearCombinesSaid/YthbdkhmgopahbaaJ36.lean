/-
  Regions that draw their order, whose calls come one behind the other, where one operation that makes memory and waits for nothing (the new variable of 'a, r, e := f(x)') may come before or behind some of them (its rivals): at each rival the walk parts: that operation comes first, or the rival does. Conditions: but for that one the operations that make or write something wait for one another; what floats does so in every world of the class and has nothing to do with that one.
-/
import Derived.Test.YthbdkhmgopahbaaJ16
set_option linter.unusedVariables false
namespace Go.Proofs.Ythbdkhmgopahbaa
open Go Go.RowKit
namespace FA

section
variable {P : Program} {ops : Array Oper} {md : Region.Mode} {C : World → Prop}
def calmAt (ops : Array Oper) (i : Nat) : Bool := match ops[i]? with | some o => calm o | none => false
theorem calmAt_eq {i : Nat} {o : Oper} (h : ops[i]? = some o) : calmAt ops i = calm o := by unfold calmAt; simp only [h]
/-- The walk while operation f is still to come; the list: what else is. -/
def lexF (P : Program) (ops : Array Oper) (C : World → Prop) (Q : Act → World → Prop) (f : Nat) (rv : List Nat) : List Nat → Act → World → Prop
  | [], a, w => stepL P ops C f Q a w
  | i :: r, a, w =>
    if rv.contains i = true then stepL P ops C f (lexI P ops C Q (i :: r)) a w ∧ stepL P ops C i (lexF P ops C Q f rv r) a w
    else if calmAt ops i = true then stepL P ops C i (lexF P ops C Q f rv r) a w
    else stepL P ops C f (lexI P ops C Q (i :: r)) a w
/-- What is asked of the region, by the kernel. -/
def floatB (md : Region.Mode) (ops : Array Oper) (f : Nat) (rv : List Nat) : Bool :=
  Region.noSelect ops && decide (f + 1 < ops.size) && Region.sinkB md ops (ops.size - 1) && !calmAt ops f && rv.all (fun r => !calmAt ops r && decide (r + 1 < ops.size)) &&
  (match ops[f]? with | none => false | some of => (List.range ops.size).all fun j => decide (j = f) || match ops[j]? with | none => false | some oj => if calm oj = true then oj.apart ops of && of.apart ops oj else rv.contains j || Region.waitsFor md ops j f || wLink md ops ops.size j f) &&
  (List.range ops.size).all fun j => match ops[j]? with
    | none => false
    | some oj => oj.after.all (fun e => !Region.binds md e || decide (e.on < j)) &&
      (List.range j).all fun i => match ops[i]? with
        | none => false
        | some oi => Region.waitsFor md ops j i || (oj.apart ops oi && oi.apart ops oj && (calm oi || calm oj)) || wLink md ops ops.size j i || (decide (i = f) && rv.contains j) || (decide (j = f) && rv.contains i)
/-- Of two operations: the later one waits for the earlier one, or they have nothing to do with one another, or they are f and a rival. -/
def PairOk (md : Region.Mode) (ops : Array Oper) (f : Nat) (rv : List Nat) : Prop := ∀ j oj, ops[j]? = some oj → (∀ e ∈ oj.after, Region.binds md e = true → e.on < j) ∧
  ∀ i, i < j → ∃ oi, ops[i]? = some oi ∧ (Region.waitsFor md ops j i = true ∨ (oj.apart ops oi = true ∧ oi.apart ops oj = true ∧ (calm oi = true ∨ calm oj = true)) ∨ wLink md ops ops.size j i = true ∨ (i = f ∧ rv.contains j = true) ∨ (j = f ∧ rv.contains i = true))
/-- What is calm has nothing to do with f; what is not is a rival of f or waits for it. -/
def Beside (md : Region.Mode) (ops : Array Oper) (f : Nat) (of : Oper) (rv : List Nat) : Prop := ∀ j oj, ops[j]? = some oj → j ≠ f → (calm oj = true → oj.apart ops of = true ∧ of.apart ops oj = true) ∧ (¬ calm oj = true → rv.contains j = true ∨ Region.waitsFor md ops j f = true ∨ wLink md ops ops.size j f = true)
theorem floatB_spec {f : Nat} {of : Oper} {rv : List Nat} (hf : ops[f]? = some of) (h : floatB md ops f rv = true) : Region.noSelect ops = true ∧ f + 1 < ops.size ∧ Region.sinkB md ops (ops.size - 1) = true ∧ calmAt ops f = false ∧ (∀ r, rv.contains r = true → calmAt ops r = false ∧ r + 1 < ops.size) ∧ Beside md ops f of rv ∧ PairOk md ops f rv := by
  simp only [floatB, hf, Bool.and_eq_true, decide_eq_true_eq, Bool.not_eq_true'] at h
  obtain ⟨⟨⟨⟨⟨⟨h1, h2⟩, h3⟩, h4⟩, h5⟩, h6⟩, hall⟩ := h
  refine ⟨h1, h2, h3, h4, fun r hr => ?_, fun j oj hj hjf => ?_, fun j oj hj => ?_⟩
  · have := List.all_eq_true.1 h5 r (by simpa using hr)
    simp only [Bool.and_eq_true, decide_eq_true_eq, Bool.not_eq_true'] at this
    exact ⟨this.1, this.2⟩
  · have h7 := List.all_eq_true.1 h6 j (List.mem_range.2 (Array.getElem?_eq_some_iff.1 hj).1)
    simp only [hj, Bool.or_eq_true, decide_eq_true_eq] at h7
    have h8 := h7.resolve_left hjf
    constructor
    · intro hc
      rw [if_pos hc] at h8
      simpa [Bool.and_eq_true] using h8
    · intro hc
      rw [if_neg hc] at h8
      simp only [Bool.or_eq_true] at h8
      rcases h8 with (h8 | h8) | h8
      · exact .inl h8
      · exact .inr (.inl h8)
      · exact .inr (.inr h8)
  · have h1 := List.all_eq_true.1 hall j (List.mem_range.2 (Array.getElem?_eq_some_iff.1 hj).1)
    simp only [hj, Bool.and_eq_true] at h1
    refine ⟨fun e he hb => ?_, fun i hi => ?_⟩
    · have := Array.all_eq_true_iff_forall_mem.1 h1.1 e he
      simpa [hb] using this
    · have h2 := List.all_eq_true.1 h1.2 i (List.mem_range.2 hi)
      cases ho : ops[i]? with
      | none => simp [ho] at h2
      | some oi =>
        simp only [ho, Bool.or_eq_true, Bool.and_eq_true, decide_eq_true_eq] at h2
        refine ⟨oi, rfl, ?_⟩
        rcases h2 with (((h2 | ⟨⟨h2, h3⟩, h4⟩) | h2) | h2) | h2
        · exact .inl h2
        · exact .inr (.inl ⟨h2, h3, h4⟩)
        · exact .inr (.inr (.inl h2))
        · exact .inr (.inr (.inr (.inl h2)))
        · exact .inr (.inr (.inr (.inr h2)))

section
variable {Q : Act → World → Prop} {f j : Nat} {of oj : Oper} {rv : List Nat}
/-- A calm operation ahead of a step that is not. -/
theorem stepL_ahead {i : Nat} {oi : Oper} {v : Value} {a : Act} {w : World} {K K' : Act → World → Prop} (hs : Region.noSelect ops = true) (hi : ops[i]? = some oi) (hci : ¬ calm oi = true) (hap : oj.apart ops oi = true) (hap' : oi.apart ops oj = true) (hj : ops[j]? = some oj) (hy : YieldsIn P ops C oj v a) (hlast : i + 1 ≠ ops.size)
    (hK : ∀ a' w', C w' → YieldsIn P ops C oj v a' → K a' w' → K' (a'.put oj.dst v) w') (h : stepL P ops C i K a w) : stepL P ops C i K' (a.put oj.dst v) w := by
  have hsj := Region.noSelect_spec hs j oj
  have hsi := Region.noSelect_spec hs i oi
  obtain ⟨p1, p2, p3⟩ := Oper.apart_spec hap
  refine (stepL_free hi hci).2 (reput hi (fun cs b => hsi cs b hi) p1 p2 ?_ ((stepL_free hi hci).1 h))
  rintro a' w' hmv ⟨hw', hk⟩
  have hw'' : C w' := hw'.resolve_left hlast
  exact ⟨.inr hw'', hK a' w' hw'' (hmv.yields hap (fun cs b => hsj cs b hj) hy) hk⟩
/-- Something comes of a step that is not calm, and the calm operation behind it yields as ahead of it. -/
theorem stepL_yields {i : Nat} {oi : Oper} {a : Act} {w : World} {K : Act → World → Prop} (hs : Region.noSelect ops = true) (hi : ops[i]? = some oi) (hci : ¬ calm oi = true) (hap : oj.apart ops oi = true) (hj : ops[j]? = some oj)
    (hK : ∀ a' w', K a' w' → ∃ v, YieldsIn P ops C oj v a') (h : stepL P ops C i K a w) : ∃ v, YieldsIn P ops C oj v a := by
  have hsj := Region.noSelect_spec hs j oj
  obtain ⟨a', w', hmv, _, hk⟩ := wpOp_some hi ((stepL_free hi hci).1 h)
  obtain ⟨v, hv⟩ := hK a' w' hk
  exact ⟨v, hmv.yields' hap (fun cs b => hsj cs b hj) hv⟩

theorem lexF_yields (hs : Region.noSelect ops = true) (hf : ops[f]? = some of) (hcf : ¬ calm of = true) (hj : ops[j]? = some oj) (hc : calm oj = true) (hjr : ¬ rv.contains j = true) (hjf : oj.apart ops of = true ∧ of.apart ops oj = true) (hrf : ∀ r, rv.contains r = true → calmAt ops r = false ∧ r + 1 < ops.size) :
    ∀ (l : List Nat) (a : Act) (w : World), l.Pairwise (· < ·) → f ∉ l → j ∈ l → Clear ops l j oj → lexF P ops C Q f rv l a w → ∃ v, YieldsIn P ops C oj v a
  | [], _, _, _, _, hm, _, _ => by simp at hm
  | i :: r, a, w, hp, hfl, hm, hcl, h => by
    have hif : i ≠ f := fun e => hfl (by rw [e]; exact List.mem_cons_self ..)
    by_cases hij : i = j
    · subst hij
      unfold lexF at h
      rw [if_neg hjr, if_pos (by rw [calmAt_eq hj]; exact hc)] at h
      obtain ⟨v, hv, _⟩ := (stepL_calm hj hc).1 h
      exact ⟨v, hv⟩
    · have hmr : j ∈ r := by simpa [Ne.symm hij] using hm
      have hlt : i < j := (List.pairwise_cons.1 hp).1 j hmr
      obtain ⟨oi, hi, hap, hap'⟩ := hcl i (List.mem_cons_self ..) hlt
      have hflr : f ∉ r := fun h => hfl (List.mem_cons_of_mem _ h)
      have hsj := Region.noSelect_spec hs j oj
      have byF : stepL P ops C f (lexI P ops C Q (i :: r)) a w → ∃ v, YieldsIn P ops C oj v a := fun hst =>
        stepL_yields hs hf hcf hjf.1 hj (fun a' w' hk => lex_yields hs hj hc (i :: r) a' w' hp hm hcl hk) hst
      unfold lexF at h
      by_cases hri : rv.contains i = true
      · rw [if_pos hri] at h
        exact byF h.1
      · rw [if_neg hri] at h
        by_cases hci : calmAt ops i = true
        · rw [if_pos hci] at h
          rw [calmAt_eq hi] at hci
          obtain ⟨u, _, hK⟩ := (stepL_calm hi hci).1 h
          obtain ⟨v, hv⟩ := lexF_yields hs hf hcf hj hc hjr hjf hrf r _ w (List.pairwise_cons.1 hp).2 hflr hmr hcl.tail hK
          exact ⟨v, Moved.yields' ⟨u, a.defers, rfl⟩ hap (fun cs b => hsj cs b hj) hv⟩
        · rw [if_neg hci] at h
          exact byF h

theorem pullF_calm (hs : Region.noSelect ops = true) (hf : ops[f]? = some of) (hcf : ¬ calm of = true) (hfs : f + 1 ≠ ops.size) (hj : ops[j]? = some oj) (hc : calm oj = true) (hjr : ¬ rv.contains j = true) (hjf : oj.apart ops of = true ∧ of.apart ops oj = true) (hrf : ∀ r, rv.contains r = true → calmAt ops r = false ∧ r + 1 < ops.size) {v : Value} :
    ∀ (l : List Nat) (a : Act) (w : World), l.Pairwise (· < ·) → f ∉ l → j ∈ l → Clear ops l j oj → C w → YieldsIn P ops C oj v a → lexF P ops C Q f rv l a w → lexF P ops C Q f rv (l.erase j) (a.put oj.dst v) w
  | [], _, _, _, _, hm, _, _, _, _ => by simp at hm
  | i :: r, a, w, hp, hfl, hm, hcl, hw, hy, h => by
    by_cases hij : i = j
    · subst hij
      unfold lexF at h
      rw [if_neg hjr, if_pos (by rw [calmAt_eq hj]; exact hc)] at h
      obtain ⟨u, hu, hK⟩ := (stepL_calm hj hc).1 h
      obtain rfl := yields_one hw hc hy hu
      rw [List.erase_cons_head]
      exact hK
    · have hmr : j ∈ r := by simpa [Ne.symm hij] using hm
      have hlt : i < j := (List.pairwise_cons.1 hp).1 j hmr
      obtain ⟨oi, hi, hap, hap'⟩ := hcl i (List.mem_cons_self ..) hlt
      have hflr : f ∉ r := fun h => hfl (List.mem_cons_of_mem _ h)
      have hif : i ≠ f := fun e => hfl (by rw [e]; exact List.mem_cons_self ..)
      have hsj := Region.noSelect_spec hs j oj
      have hsi := Region.noSelect_spec hs i oi
      have hjs := (Array.getElem?_eq_some_iff.1 hj).1
      have he : (i :: r).erase j = i :: r.erase j := List.erase_cons_tail (by simpa using hij)
      have byF : stepL P ops C f (lexI P ops C Q (i :: r)) a w → stepL P ops C f (lexI P ops C Q (i :: r.erase j)) (a.put oj.dst v) w := fun hst =>
        stepL_ahead hs hf hcf hjf.1 hjf.2 hj hy hfs (fun a' w' hw' hy' hk => by
          have := pull_calm hs hj hc (i :: r) a' w' hp hm hcl hw' hy' hk
          rwa [he] at this) hst
      rw [he]
      unfold lexF at h ⊢
      by_cases hri : rv.contains i = true
      · rw [if_pos hri] at h ⊢
        have hci : ¬ calm oi = true := by
          have := (hrf i hri).1
          rw [calmAt_eq hi] at this
          rw [this]
          exact Bool.false_ne_true
        exact ⟨byF h.1, stepL_ahead hs hi hci hap hap' hj hy (by have := (hrf i hri).2; omega) (fun a' w' hw' hy' hk => pullF_calm hs hf hcf hfs hj hc hjr hjf hrf r a' w' (List.pairwise_cons.1 hp).2 hflr hmr hcl.tail hw' hy' hk) h.2⟩
      · rw [if_neg hri] at h ⊢
        by_cases hci : calmAt ops i = true
        · rw [if_pos hci] at h ⊢
          rw [calmAt_eq hi] at hci
          obtain ⟨p1, p2, p3⟩ := Oper.apart_spec hap
          obtain ⟨u, hu, hK⟩ := (stepL_calm hi hci).1 h
          have hy' := Moved.yields ⟨u, a.defers, rfl⟩ hap (fun cs b => hsj cs b hj) hy
          have := pullF_calm hs hf hcf hfs hj hc hjr hjf hrf r _ w (List.pairwise_cons.1 hp).2 hflr hmr hcl.tail hw hy' hK
          refine (stepL_calm hi hci).2 ⟨u, Moved.yields ⟨v, a.defers, rfl⟩ hap' (fun cs b => hsi cs b hi) hu, ?_⟩
          rw [Act.put_comm a v u p2]
          exact this
        · rw [if_neg hci] at h ⊢
          exact byF h
/-- A calm operation behind a step that is not, which comes first. -/
theorem stepL_behind {i : Nat} {oi : Oper} {a : Act} {w : World} {u : Value} {K K' : Act → World → Prop} (hs : Region.noSelect ops = true) (hi : ops[i]? = some oi) (hj : ops[j]? = some oj) (hc : ¬ calm oj = true) (hap : oj.apart ops oi = true) (hap' : oi.apart ops oj = true) (hu : YieldsIn P ops C oi u a)
    (hK : ∀ a' w', YieldsIn P ops C oi u a' → K (a'.put oi.dst u) w' → K' a' w') (h : stepL P ops C j K (a.put oi.dst u) w) : stepL P ops C j K' a w := by
  have hsj := Region.noSelect_spec hs j oj
  have hsi := Region.noSelect_spec hs i oi
  obtain ⟨p1, p2, p3⟩ := Oper.apart_spec hap'
  refine (stepL_free hj hc).2 (unput hj (fun cs b => hsj cs b hj) p1 p2 ?_ ((stepL_free hj hc).1 h))
  rintro a' w' hmv ⟨hw', hK'⟩
  exact ⟨hw', hK a' w' (hmv.yields hap' (fun cs b => hsi cs b hi) hu) hK'⟩
/-- What stands ahead of f in the walk has nothing to do with it. -/
def FreeF (ops : Array Oper) (of : Oper) (rv : List Nat) : List Nat → Prop
  | [] => True
  | i :: r => rv.contains i = true ∨ calmAt ops i = false ∨ ((∃ oi, ops[i]? = some oi ∧ of.apart ops oi = true ∧ oi.apart ops of = true) ∧ FreeF ops of rv r)
theorem lexF_f (hs : Region.noSelect ops = true) (hf : ops[f]? = some of) (hcf : ¬ calm of = true) : ∀ (l : List Nat) (a : Act) (w : World), FreeF ops of rv l → lexF P ops C Q f rv l a w → stepL P ops C f (lexI P ops C Q l) a w
  | [], a, w, _, h => h
  | i :: r, a, w, hfr, h => by
    unfold lexF at h
    by_cases hri : rv.contains i = true
    · rw [if_pos hri] at h
      exact h.1
    · rw [if_neg hri] at h
      by_cases hci : calmAt ops i = true
      · rw [if_pos hci] at h
        rcases hfr with e | e | ⟨⟨oi, hi, hap, hap'⟩, hfr⟩
        · exact absurd e hri
        · rw [hci] at e; cases e
        · rw [calmAt_eq hi] at hci
          obtain ⟨u, hu, hK⟩ := (stepL_calm hi hci).1 h
          refine stepL_behind hs hi hf hcf hap hap' hu (fun a' w' hu' hk => ?_) (lexF_f hs hf hcf r _ w hfr hK)
          exact (stepL_calm hi hci).2 ⟨u, hu', hk⟩
      · rw [if_neg hci] at h
        exact h
theorem pullF_rival (hs : Region.noSelect ops = true) (hj : ops[j]? = some oj) (hc : ¬ calm oj = true) (hjr : rv.contains j = true) (hrc : ∀ r, rv.contains r = true → calmAt ops r = false) :
    ∀ (l : List Nat) (a : Act) (w : World), l.Pairwise (· < ·) → j ∈ l → Clear ops l j oj → (∀ i ∈ l, i < j → calmAt ops i = true) → lexF P ops C Q f rv l a w → stepL P ops C j (lexF P ops C Q f rv (l.erase j)) a w
  | [], _, _, _, hm, _, _, _ => by simp at hm
  | i :: r, a, w, hp, hm, hcl, hq, h => by
    by_cases hij : i = j
    · subst hij
      unfold lexF at h
      rw [if_pos hjr] at h
      rw [List.erase_cons_head]
      exact h.2
    · have hmr : j ∈ r := by simpa [Ne.symm hij] using hm
      have hlt : i < j := (List.pairwise_cons.1 hp).1 j hmr
      obtain ⟨oi, hi, hap, hap'⟩ := hcl i (List.mem_cons_self ..) hlt
      have hca := hq i (List.mem_cons_self ..) hlt
      have hri : ¬ rv.contains i = true := fun e => by
        rw [hrc i e] at hca
        cases hca
      unfold lexF at h
      rw [if_neg hri, if_pos hca] at h
      have hci := hca
      rw [calmAt_eq hi] at hci
      obtain ⟨u, hu, hK⟩ := (stepL_calm hi hci).1 h
      have ih := pullF_rival hs hj hc hjr hrc r _ w (List.pairwise_cons.1 hp).2 hmr hcl.tail (fun k hk => hq k (List.mem_cons_of_mem _ hk)) hK
      rw [List.erase_cons_tail (by simpa using hij)]
      refine stepL_behind hs hi hj hc hap hap' hu (fun a' w' hu' hk => ?_) ih
      unfold lexF
      rw [if_neg hri, if_pos hca]
      exact (stepL_calm hi hci).2 ⟨u, hu', hk⟩
end

/-! ### The theorem -/
/-- Behind f: the lexical walk of what is left serves every order. -/
theorem wpAny_of_lexB {Q : Act → World → Prop} {Q' : Exit → Act → World → Prop} {f : Nat} {rv : List Nat} (hsel : Region.noSelect ops = true) (hpos : 0 < ops.size) (hsink : Region.sinkB md ops (ops.size - 1) = true) (info : PairOk md ops f rv) (hQ : ∀ a w, Q a w → Q' .normal a w) :
    ∀ (n : Nat) (l : List Nat) (listed : Array Bool) (a : Act) (w : World), l.length = n → l.Pairwise (· < ·) → (∀ j, j ∈ l ↔ j < ops.size ∧ listed.getD j true = false) → listed.size = ops.size → Closed md ops listed → f ∉ l → (l = [] ∨ C w) → lexI P ops C Q l a w → wpAny P md ops Q' n listed a w
  | 0, l, listed, a, w, hn, _, hl, _, _, _, _, h => by
    obtain rfl := List.eq_nil_of_length_eq_zero hn
    refine ⟨?_, hQ _ _ h⟩
    rw [List.eq_nil_iff_forall_not_mem]
    intro j hj
    obtain ⟨h0, oj, hoj, _⟩ := mem_ready.1 hj
    have := (hl j).2 ⟨(Array.getElem?_eq_some_iff.1 hoj).1, h0⟩
    simp at this
  | n + 1, l, listed, a, w, hn, hp, hl, hsz, hcl, hfl, hw, h => by
    have hne : l ≠ [] := by intro e; subst e; simp at hn
    have hw := hw.resolve_left hne
    have getT : ∀ {k : Nat}, k < ops.size → k ∉ l → listed.getD k false = true := fun {k} hk hnk => by
      have : ¬ listed.getD k true = false := fun e => hnk ((hl k).2 ⟨hk, e⟩)
      have hk' : k < listed.size := by omega
      simp [hk'] at this ⊢
      exact this
    have getF : ∀ {k : Nat}, k ∈ l → listed.getD k false = false := fun {k} hk => getD_both ((hl k).1 hk).2
    refine ⟨fun h0 => ?_, fun j hj => ?_⟩
    · exfalso
      obtain ⟨i0, r, rfl⟩ : ∃ i0 r, l = i0 :: r := by cases l with | nil => exact absurd rfl hne | cons i r => exact ⟨i, r, rfl⟩
      obtain ⟨hi0, hu0⟩ := (hl i0).1 (List.mem_cons_self ..)
      have : i0 ∈ Region.ready md ops listed := by
        refine mem_ready.2 ⟨hu0, ops[i0], Array.getElem?_eq_getElem hi0, fun e he hb => ?_⟩
        have hlt := (info i0 _ (Array.getElem?_eq_getElem hi0)).1 e he hb
        refine getT (by omega) fun hm => ?_
        rcases List.mem_cons.1 hm with h1 | h1
        · omega
        · have := (List.pairwise_cons.1 hp).1 _ h1; omega
      rw [h0] at this
      cases this
    · obtain ⟨hu, oj, hoj, hdep⟩ := mem_ready.1 hj
      have hjs := (Array.getElem?_eq_some_iff.1 hoj).1
      have hjl : j ∈ l := (hl j).2 ⟨hjs, hu⟩
      have before : ∀ i ∈ l, i < j → ∃ oi, ops[i]? = some oi ∧ oj.apart ops oi = true ∧ oi.apart ops oj = true ∧ (calm oi = true ∨ calm oj = true) := fun i hi hij => by
        obtain ⟨oi, hoi, h1 | ⟨h1, h2, h3⟩ | h1 | ⟨h1, _⟩ | ⟨h1, _⟩⟩ := (info j oj hoj).2 i hij
        · obtain ⟨oj', hoj', e, he, hb, hon⟩ := Region.waitsFor_spec h1
          obtain rfl : oj' = oj := Option.some.inj (hoj'.symm.trans hoj)
          have := hdep e he hb
          rw [hon, getF hi] at this
          cases this
        · exact ⟨oi, hoi, h1, h2, h3⟩
        · have := link_listed hcl ops.size j i oj hoj h1 hdep
          rw [getF hi] at this
          cases this
        · rw [h1] at hi
          exact absurd hi hfl
        · rw [h1] at hjl
          exact absurd hjl hfl
      have clear : Clear ops l j oj := fun i hi hij => by
        obtain ⟨oi, hoi, h1, h2, _⟩ := before i hi hij
        exact ⟨oi, hoi, h1, h2⟩
      have step : stepL P ops C j (lexI P ops C Q (l.erase j)) a w := by
        by_cases hc : calm oj = true
        · obtain ⟨v, hv⟩ := lex_yields hsel hoj hc l a w hp hjl clear h
          exact (stepL_calm hoj hc).2 ⟨v, hv, pull_calm hsel hoj hc l a w hp hjl clear hw hv h⟩
        · refine pull_free hsel hoj hc l a w hp hjl clear (fun i hi hij oi hoi => ?_) h
          obtain ⟨oi', hoi', _, _, h3⟩ := before i hi hij
          obtain rfl : oi' = oi := Option.some.inj (hoi'.symm.trans hoi)
          exact h3.resolve_right hc
      have hnd : l.Nodup := hp.imp (fun h => Nat.ne_of_lt h)
      have rest : ∀ (a' : Act) (w' : World), (l.erase j = [] ∨ C w') → lexI P ops C Q (l.erase j) a' w' → wpAny P md ops Q' n (listed.setIfInBounds j true) a' w' := fun a' w' hw' hK => by
        refine wpAny_of_lexB hsel hpos hsink info hQ n (l.erase j) _ a' w' ?_ (hp.sublist (List.erase_sublist ..)) (fun k => ?_) (by simpa using hsz) (closed_set hcl hj) (fun h => hfl (List.mem_of_mem_erase h)) hw' hK
        · rw [List.length_erase_of_mem hjl, hn]; rfl
        · rw [hnd.mem_erase_iff, hl k]
          by_cases hkj : j = k
          · subst hkj
            have hjl' : j < listed.size := by omega
            simp [hjl']
          · rw [getD_set_ne true hkj]
            exact ⟨fun h => h.2, fun h => ⟨fun e => hkj e.symm, h⟩⟩
      by_cases hc : calm oj = true
      · obtain ⟨v, hv, hK⟩ := (stepL_calm hoj hc).1 step
        exact wpOp_of_calm hoj hc hw hv (rest _ _ (.inr hw) hK)
      · refine wpOp_exit (wpOp_mono ?_ ((stepL_free hoj hc).1 step))
        rintro a' w' ⟨hw', hK⟩
        refine rest a' w' (hw'.imp (fun hlast => ?_) id) hK
        have inv : HeadInv md ops (ops.size - 1) listed := ⟨hsz, hcl, fun t ht ht' => by
          obtain rfl : t = j := by omega
          exact hu⟩
        have hch : Region.chainB md ops (ops.size - 1) = true := by
          unfold Region.chainB
          refine List.all_eq_true.2 fun t ht => ?_
          have := List.mem_range.1 ht
          simp; left; omega
        rw [List.eq_nil_iff_forall_not_mem]
        intro i hi
        rw [hnd.mem_erase_iff] at hi
        have hi2 := (hl i).1 hi.2
        exact tail_waits hsink hch (by omega) inv _ i rfl (by omega) hi2.2 j (by omega) hj
/-- M is an operation that makes or writes something, is no rival of f, and waits for it. -/
def MidOk (md : Region.Mode) (ops : Array Oper) (f : Nat) (rv : List Nat) (M : Nat) : Prop := (f < M ∧ M < ops.size) ∧ calmAt ops M = false ∧ rv.contains M = false ∧ (∃ oM, ops[M]? = some oM ∧ (Region.waitsFor md ops M f = true ∨ wLink md ops ops.size M f = true))
def midB (md : Region.Mode) (ops : Array Oper) (f : Nat) (rv : List Nat) (M : Nat) : Bool :=
  (decide (f < M) && decide (M < ops.size)) && !calmAt ops M && !rv.contains M && (Region.waitsFor md ops M f || wLink md ops ops.size M f)
theorem midB_spec {f M : Nat} {rv : List Nat} (h : midB md ops f rv M = true) : MidOk md ops f rv M := by
  simp only [midB, Bool.and_eq_true, decide_eq_true_eq, Bool.not_eq_true', Bool.or_eq_true] at h
  obtain ⟨⟨⟨h1, h2⟩, h3⟩, h4⟩ := h
  exact ⟨h1, h2, h3, ⟨ops[M], Array.getElem?_eq_getElem h1.2, h4⟩⟩
theorem freeF_of {f : Nat} {of : Oper} {rv : List Nat} (hbs : Beside md ops f of rv) : ∀ l : List Nat, f ∉ l → (∀ i ∈ l, i < ops.size) → FreeF ops of rv l
  | [], _, _ => trivial
  | i :: r, hfl, hsz => by
    unfold FreeF
    by_cases hr : rv.contains i = true
    · exact .inl hr
    · by_cases hc : calmAt ops i = true
      · have hif : i ≠ f := fun e => hfl (by rw [e]; exact List.mem_cons_self ..)
        have hi := Array.getElem?_eq_getElem (hsz i (List.mem_cons_self ..))
        have hc2 := hc
        rw [calmAt_eq hi] at hc2
        obtain ⟨h1, h2⟩ := (hbs i _ hi hif).1 hc2
        exact .inr (.inr ⟨⟨_, hi, h2, h1⟩, freeF_of hbs r (fun h => hfl (List.mem_cons_of_mem _ h)) fun k hk => hsz k (List.mem_cons_of_mem _ hk)⟩)
      · exact .inr (.inl (by simpa using hc))
theorem mid_mem {f M : Nat} {rv : List Nat} {l : List Nat} {listed : Array Bool} (hM : MidOk md ops f rv M) (hl : ∀ j, (j ∈ l ∨ j = f) ↔ j < ops.size ∧ listed.getD j true = false) (hsz : listed.size = ops.size) (hcl : Closed md ops listed) : M ∈ l := by
  obtain ⟨⟨h0, h1⟩, h2, h3, ⟨oM, hoM, hlk⟩⟩ := hM
  by_cases hu : listed.getD M true = false
  · rcases (hl M).2 ⟨h1, hu⟩ with e | e
    · exact e
    · omega
  · exfalso
    have hMt : listed.getD M false = true := by
      have hk' : M < listed.size := by omega
      simp [hk'] at hu ⊢
      exact hu
    have hff : listed.getD f false = false := getD_both ((hl f).1 (.inr rfl)).2
    rcases hlk with hlk | hlk
    · obtain ⟨oj', hoj', e, he, hb, hon⟩ := Region.waitsFor_spec hlk
      have := hcl M oj' hoj' hMt e he hb
      rw [hon, hff] at this
      cases this
    · have := link_listed hcl ops.size M f oM hoM hlk (hcl M oM hoM hMt)
      rw [hff] at this
      cases this
theorem wpAny_of_lexF {Q : Act → World → Prop} {Q' : Exit → Act → World → Prop} {f M : Nat} {of : Oper} {rv : List Nat} (hB : floatB md ops f rv = true) (hf : ops[f]? = some of) (hM : MidOk md ops f rv M) (hQ : ∀ a w, Q a w → Q' .normal a w) :
    ∀ (n : Nat) (l : List Nat) (listed : Array Bool) (a : Act) (w : World), l.length = n → l.Pairwise (· < ·) → f ∉ l → (∀ j, (j ∈ l ∨ j = f) ↔ j < ops.size ∧ listed.getD j true = false) → listed.size = ops.size → Closed md ops listed → C w → lexF P ops C Q f rv l a w → wpAny P md ops Q' (n + 1) listed a w := by
  obtain ⟨hsel, hfs, hsink, hcf, hrv, hbs, info⟩ := floatB_spec hf hB
  have hcf' : ¬ calm of = true := by
    rw [calmAt_eq hf] at hcf
    rw [hcf]
    exact Bool.false_ne_true
  intro n
  induction n with
  | zero =>
    intro l listed a w hn hp hfl hl hsz hcl hw h
    obtain rfl := List.eq_nil_of_length_eq_zero hn
    have := mid_mem hM hl hsz hcl
    simp at this
  | succ n ih =>
    intro l listed a w hn hp hfl hl hsz hcl hw h
    have hMl := mid_mem hM hl hsz hcl
    have hlf : ∀ j, j ∈ l → j < ops.size ∧ listed.getD j true = false := fun j hj => (hl j).1 (.inl hj)
    have hfu := (hl f).1 (.inr rfl)
    have getT : ∀ {k : Nat}, k < ops.size → k ∉ l → k ≠ f → listed.getD k false = true := fun {k} hk hnk hkf => by
      have : ¬ listed.getD k true = false := fun e => (((hl k).2 ⟨hk, e⟩).elim hnk hkf)
      have hk' : k < listed.size := by omega
      simp [hk'] at this ⊢
      exact this
    have getF : ∀ {k : Nat}, k ∈ l → listed.getD k false = false := fun {k} hk => getD_both (hlf k hk).2
    have hff : listed.getD f false = false := getD_both hfu.2
    refine ⟨fun h0 => ?_, fun j hj => ?_⟩
    · exfalso
      obtain ⟨i0, r, rfl⟩ : ∃ i0 r, l = i0 :: r := by cases l with | nil => simp at hn | cons i r => exact ⟨i, r, rfl⟩
      have hif : i0 ≠ f := fun e => hfl (by rw [e]; exact List.mem_cons_self ..)
      obtain ⟨hi0, hu0⟩ := hlf i0 (List.mem_cons_self ..)
      have low : ∀ e, e ∈ i0 :: r → i0 ≤ e := fun e he => by
        rcases List.mem_cons.1 he with h1 | h1
        · omega
        · have := (List.pairwise_cons.1 hp).1 _ h1; omega
      by_cases hlt : i0 < f
      · have : i0 ∈ Region.ready md ops listed := by
          refine mem_ready.2 ⟨hu0, ops[i0], Array.getElem?_eq_getElem hi0, fun e he hb => ?_⟩
          have hlt2 := (info i0 _ (Array.getElem?_eq_getElem hi0)).1 e he hb
          exact getT (by omega) (fun hm => by have := low _ hm; omega) (by omega)
        rw [h0] at this
        cases this
      · have : f ∈ Region.ready md ops listed := by
          refine mem_ready.2 ⟨hfu.2, of, hf, fun e he hb => ?_⟩
          have hlt2 := (info f _ hf).1 e he hb
          exact getT (by omega) (fun hm => by have := low _ hm; omega) (by omega)
        rw [h0] at this
        cases this
    · obtain ⟨hu, oj, hoj, hdep⟩ := mem_ready.1 hj
      have hjs := (Array.getElem?_eq_some_iff.1 hoj).1
      have before : j ∈ l → ∀ i ∈ l, i < j → ∃ oi, ops[i]? = some oi ∧ oj.apart ops oi = true ∧ oi.apart ops oj = true ∧ (calm oi = true ∨ calm oj = true) := fun hjl i hi hij => by
        obtain ⟨oi, hoi, h1 | ⟨h1, h2, h3⟩ | h1 | ⟨h1, _⟩ | ⟨h1, _⟩⟩ := (info j oj hoj).2 i hij
        · obtain ⟨oj', hoj', e, he, hb, hon⟩ := Region.waitsFor_spec h1
          obtain rfl : oj' = oj := Option.some.inj (hoj'.symm.trans hoj)
          have := hdep e he hb
          rw [hon, getF hi] at this
          cases this
        · exact ⟨oi, hoi, h1, h2, h3⟩
        · have := link_listed hcl ops.size j i oj hoj h1 hdep
          rw [getF hi] at this
          cases this
        · rw [h1] at hi
          exact absurd hi hfl
        · rw [h1] at hjl
          exact absurd hjl hfl
      have clear : j ∈ l → Clear ops l j oj := fun hjl i hi hij => by
        obtain ⟨oi, hoi, h1, h2, _⟩ := before hjl i hi hij
        exact ⟨oi, hoi, h1, h2⟩
      have hnd : l.Nodup := hp.imp (fun h => Nat.ne_of_lt h)
      rcases (hl j).2 ⟨hjs, hu⟩ with hjl | hjf
      · have hjne : j ≠ f := fun e => hfl (by rw [← e]; exact hjl)
        have rest : ∀ (a' : Act) (w' : World), C w' → lexF P ops C Q f rv (l.erase j) a' w' → wpAny P md ops Q' (n + 1) (listed.setIfInBounds j true) a' w' := fun a' w' hw' hK => by
          refine ih (l.erase j) _ a' w' ?_ (hp.sublist (List.erase_sublist ..)) (fun h => hfl (List.mem_of_mem_erase h)) (fun k => ?_) (by simpa using hsz) (closed_set hcl hj) hw' hK
          · rw [List.length_erase_of_mem hjl, hn]; rfl
          · rw [hnd.mem_erase_iff]
            by_cases hkj : j = k
            · subst hkj
              have hjl' : j < listed.size := by omega
              simp [hjl', hjne]
            · rw [getD_set_ne true hkj, ← hl k]
              exact ⟨fun h => h.imp (fun h => h.2) id, fun h => h.imp (fun h => ⟨fun e => hkj e.symm, h⟩) id⟩
        by_cases hc : calm oj = true
        · have hjr : ¬ rv.contains j = true := fun e => by
            have := (hrv j e).1
            rw [calmAt_eq hoj, hc] at this
            cases this
          have hjf := (hbs j oj hoj hjne).1 hc
          obtain ⟨v, hv⟩ := lexF_yields hsel hf hcf' hoj hc hjr hjf hrv l a w hp hfl hjl (clear hjl) h
          exact wpOp_of_calm hoj hc hw hv (rest _ _ hw (pullF_calm hsel hf hcf' (by omega) hoj hc hjr hjf hrv l a w hp hfl hjl (clear hjl) hw hv h))
        · have hjr : rv.contains j = true := by
            rcases (hbs j oj hoj hjne).2 hc with h1 | h1 | h1
            · exact h1
            · obtain ⟨oj', hoj', e, he, hb, hon⟩ := Region.waitsFor_spec h1
              obtain rfl : oj' = oj := Option.some.inj (hoj'.symm.trans hoj)
              have := hdep e he hb
              rw [hon, hff] at this
              cases this
            · have := link_listed hcl ops.size j f oj hoj h1 hdep
              rw [hff] at this
              cases this
          have step := pullF_rival hsel hoj hc hjr (fun r hr => (hrv r hr).1) l a w hp hjl (clear hjl) (fun i hi hij => by
            obtain ⟨oi, hoi, _, _, h3⟩ := before hjl i hi hij
            rw [calmAt_eq hoi]
            exact h3.resolve_right hc) h
          refine wpOp_exit (wpOp_mono ?_ ((stepL_free hoj hc).1 step))
          rintro a' w' ⟨hw', hK⟩
          exact rest a' w' (hw'.resolve_left (by have := (hrv j hjr).2; omega)) hK
      · subst hjf
        obtain rfl : oj = of := Option.some.inj (hoj.symm.trans hf)
        have step := lexF_f hsel hf hcf' l a w (freeF_of hbs l hfl fun i hi => (hlf i hi).1) h
        refine wpOp_exit (wpOp_mono ?_ ((stepL_free hf hcf').1 step))
        rintro a' w' ⟨hw', hK⟩
        refine wpAny_of_lexB hsel (by omega) hsink info hQ (n + 1) l _ a' w' hn hp (fun k => ?_) (by simpa using hsz) (closed_set hcl hj) hfl (.inr (hw'.resolve_left (by omega))) hK
        by_cases hkj : j = k
        · subst hkj
          have hjl' : j < listed.size := by omega
          simp [hjl', hfl]
        · rw [getD_set_ne true hkj, ← hl k]
          exact ⟨.inl, fun h => h.resolve_right fun e => hkj e.symm⟩
/-- **One walk, which parts at each rival, serves every order.** -/
theorem wp_region_float {id : Nat} {Q : Exit → Act → World → Prop} {a : Act} {w : World} {l : List Oper} (f M : Nat) (rv : List Nat) (of : Oper) (hC : ∀ x : Ext w, C x.val) (hm : P.follows .mixedOrders = true) (hB : floatB .any l.toArray f rv = true) (hMB : midB .any l.toArray f rv M = true) (hf : l.toArray[f]? = some of)
    (h : ∀ x : Ext w, lexF P l.toArray C (fun a' w' => Q .normal a' w') f rv ((List.range l.length).erase f) a x.val) : (Code.region id l.toArray true).wp P Q a w := by
  obtain ⟨x, hx⟩ := Cls.start w
  refine wp_region_any hm ?_
  rw [hx]
  have hfl : f < l.length := by simpa using (Array.getElem?_eq_some_iff.1 hf).1
  have hmem : f ∈ List.range l.length := List.mem_range.2 hfl
  have hnd : (List.range l.length).Nodup := List.nodup_range
  have hlen : ((List.range l.length).erase f).length + 1 = l.toArray.size := by
    rw [List.length_erase_of_mem hmem, List.length_range]
    simp
    omega
  have key := wpAny_of_lexF (C := C) (Q := fun a' w' => Q .normal a' w') (Q' := Q) hB hf (midB_spec hMB) (fun _ _ h => h) _ ((List.range l.length).erase f) (Array.replicate l.toArray.size false) a x.val rfl (List.pairwise_lt_range.sublist (List.erase_sublist ..)) (fun h => (hnd.mem_erase_iff.1 h).1 rfl) (fun j => ?_) (by simp) ?_ (hC x) (h x)
  · rw [hlen] at key
    exact key
  · rw [hnd.mem_erase_iff, List.mem_range]
    simp only [List.size_toArray]
    by_cases e : j = f
    · subst e
      simp [hfl]
    · constructor
      · rintro (⟨_, h1⟩ | h1)
        · exact ⟨h1, by simp [h1]⟩
        · exact absurd h1 e
      · rintro ⟨h1, _⟩
        exact .inl ⟨e, h1⟩
  · intro j oj hj hl
    rw [getD_replicate_false] at hl
    cases hl

/-! ### The walk -/
section
variable {Q : Act → World → Prop} {f i : Nat} {of o : Oper} {rv r : List Nat} {a : Act} {w : World} {K : Act → World → Prop}
theorem calm_of_list (hi : ops[i]? = some o) (hc : calm o = true) (h : ∀ K' : Act → Prop, (∀ a', K a' w → K' a') → wpQuiet P ops C K' [o] a) : stepL P ops C i K a w := by
  have hq : qOp P ops C i (fun a' => K a' w) a := by
    have h1 := h (fun a' => K a' w) fun _ h => h
    unfold qOp
    simp only [hi]
    simpa [wpQuiet] using h1
  obtain ⟨v, hy, hK⟩ := yieldsIn_of_qOp hi hq
  exact (stepL_calm hi hc).2 ⟨v, hy, hK⟩
theorem free_of_list (hi : ops[i]? = some o) (hc : calm o = false) (h : ∀ K' : Exit → Act → World → Prop, (∀ a' w', (i + 1 = ops.size ∨ C w') → K a' w' → K' .normal a' w') → wpList P ops K' [o] a w) : stepL P ops C i K a w := by
  have h := h (fun e a' w' => e = .normal ∧ (i + 1 = ops.size ∨ C w') ∧ K a' w') fun _ _ h1 h2 => ⟨rfl, h1, h2⟩
  refine (stepL_free hi (by rw [hc]; exact Bool.false_ne_true)).2 ?_
  unfold wpOp
  simp only [hi]
  unfold wpList at h
  split
  · rename_i hw
    rw [if_pos hw] at h
    left
    rcases h with h | ⟨_, b, w1, h⟩
    · unfold Oper.wp at *
      generalize (execOp a.eval o).run P w = r at *
      cases r with
      | ok n w' =>
        cases n <;> simp only [Oper.upon, wpList] at h ⊢
        case enter f args =>
          refine Calls.mono h fun e w'' he => ?_
          cases e with
          | returned u => exact he.2
          | panicked c => exact absurd he.1 (by simp)
          | outgrown => obtain ⟨b, w1, he⟩ := he; exact absurd he.1 (by simp)
        case row row args => exact Rows.mono h fun u w'' he => he.2
        all_goals exact h.2
      | halt y w' => cases y <;> simp only [Oper.upon] at h ⊢; exact absurd h.1 (by simp)
    · exact absurd h.1 (by simp)
  · rename_i hw
    rw [if_neg hw] at h
    exact h.2
theorem lexF_calm (hi : ops[i]? = some o) (hc : calm o = true) (hr : rv.contains i = false) (h : ∀ K' : Act → Prop, (∀ a', lexF P ops C Q f rv r a' w → K' a') → wpQuiet P ops C K' [o] a) : lexF P ops C Q f rv (i :: r) a w := by
  unfold lexF
  rw [if_neg (by rw [hr]; exact Bool.false_ne_true), if_pos (by rw [calmAt_eq hi]; exact hc)]
  exact calm_of_list hi hc h
theorem lexF_rival (hf : ops[f]? = some of) (hcf : calm of = false) (hi : ops[i]? = some o) (hc : calm o = false) (hr : rv.contains i = true) (h1 : ∀ K' : Exit → Act → World → Prop, (∀ a' w', (f + 1 = ops.size ∨ C w') → lexI P ops C Q (i :: r) a' w' → K' .normal a' w') → wpList P ops K' [of] a w)
    (h2 : ∀ K' : Exit → Act → World → Prop, (∀ a' w', (i + 1 = ops.size ∨ C w') → lexF P ops C Q f rv r a' w' → K' .normal a' w') → wpList P ops K' [o] a w) : lexF P ops C Q f rv (i :: r) a w := by
  unfold lexF
  rw [if_pos hr]
  exact ⟨free_of_list hf hcf h1, free_of_list hi hc h2⟩
theorem lexF_now (hf : ops[f]? = some of) (hcf : calm of = false) (hi : ops[i]? = some o) (hc : calm o = false) (hr : rv.contains i = false) (h1 : ∀ K' : Exit → Act → World → Prop, (∀ a' w', (f + 1 = ops.size ∨ C w') → lexI P ops C Q (i :: r) a' w' → K' .normal a' w') → wpList P ops K' [of] a w) : lexF P ops C Q f rv (i :: r) a w := by
  unfold lexF
  rw [if_neg (by rw [hr]; exact Bool.false_ne_true), if_neg (by rw [calmAt_eq hi, hc]; exact Bool.false_ne_true)]
  exact free_of_list hf hcf h1
theorem lexI_calm (hi : ops[i]? = some o) (hc : calm o = true) (h : ∀ K' : Act → Prop, (∀ a', lexI P ops C Q r a' w → K' a') → wpQuiet P ops C K' [o] a) : lexI P ops C Q (i :: r) a w := calm_of_list hi hc h
theorem lexI_free (hi : ops[i]? = some o) (hc : calm o = false) (h : ∀ K' : Exit → Act → World → Prop, (∀ a' w', (i + 1 = ops.size ∨ C w') → lexI P ops C Q r a' w' → K' .normal a' w') → wpList P ops K' [o] a w) : lexI P ops C Q (i :: r) a w := free_of_list hi hc h
/-- The same for a region that is written out: the operation comes out of the list. -/
theorem at_list {l : List Oper} (hi : l[i]? = some o) : l.toArray[i]? = some o := by simpa using hi
theorem lexF_calm_l {l : List Oper} (hi : l[i]? = some o) (hc : calm o = true) (hr : rv.contains i = false) (h : ∀ K' : Act → Prop, (∀ a', lexF P l.toArray C Q f rv r a' w → K' a') → wpQuiet P l.toArray C K' [o] a) : lexF P l.toArray C Q f rv (i :: r) a w := lexF_calm (at_list hi) hc hr h
theorem lexF_rival_l {l : List Oper} (hf : l[f]? = some of) (hcf : calm of = false) (hi : l[i]? = some o) (hc : calm o = false) (hr : rv.contains i = true) (h1 : ∀ K' : Exit → Act → World → Prop, (∀ a' w', (f + 1 = l.toArray.size ∨ C w') → lexI P l.toArray C Q (i :: r) a' w' → K' .normal a' w') → wpList P l.toArray K' [of] a w)
    (h2 : ∀ K' : Exit → Act → World → Prop, (∀ a' w', (i + 1 = l.toArray.size ∨ C w') → lexF P l.toArray C Q f rv r a' w' → K' .normal a' w') → wpList P l.toArray K' [o] a w) : lexF P l.toArray C Q f rv (i :: r) a w := lexF_rival (at_list hf) hcf (at_list hi) hc hr h1 h2
theorem lexF_now_l {l : List Oper} (hf : l[f]? = some of) (hcf : calm of = false) (hi : l[i]? = some o) (hc : calm o = false) (hr : rv.contains i = false) (h1 : ∀ K' : Exit → Act → World → Prop, (∀ a' w', (f + 1 = l.toArray.size ∨ C w') → lexI P l.toArray C Q (i :: r) a' w' → K' .normal a' w') → wpList P l.toArray K' [of] a w) : lexF P l.toArray C Q f rv (i :: r) a w := lexF_now (at_list hf) hcf (at_list hi) hc hr h1
theorem lexI_calm_l {l : List Oper} (hi : l[i]? = some o) (hc : calm o = true) (h : ∀ K' : Act → Prop, (∀ a', lexI P l.toArray C Q r a' w → K' a') → wpQuiet P l.toArray C K' [o] a) : lexI P l.toArray C Q (i :: r) a w := lexI_calm (at_list hi) hc h
theorem lexI_free_l {l : List Oper} (hi : l[i]? = some o) (hc : calm o = false) (h : ∀ K' : Exit → Act → World → Prop, (∀ a' w', (i + 1 = l.toArray.size ∨ C w') → lexI P l.toArray C Q r a' w' → K' .normal a' w') → wpList P l.toArray K' [o] a w) : lexI P l.toArray C Q (i :: r) a w := lexI_free (at_list hi) hc h
theorem lexI_done (h : Q a w) : lexI P ops C Q [] a w := h
end
end
end FA
end Go.Proofs.Ythbdkhmgopahbaa
