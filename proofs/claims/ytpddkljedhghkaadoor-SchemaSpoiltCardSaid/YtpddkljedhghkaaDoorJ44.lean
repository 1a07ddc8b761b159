/-
  Regions whose operations come in the text's one order but for two: the last one and one before it come in either order. Calm operations below k yield in the class C, the others in every world.
-/
import Derived.Test.YtpddkljedhghkaaDoorJ43
set_option linter.unusedVariables false
namespace Go.Proofs.YtpddkljedhghkaaDoor.LN.LR
open Go Go.RowKit Go.Deep
/-- The class in which operation j yields. -/
def Cl (C : World → Prop) (k j : Nat) (w : World) : Prop := j < k → C w
theorem Cl.of {C : World → Prop} {k j : Nat} {w : World} (h : C w) : Cl C k j w := fun _ => h
/-- Any world. -/
structure AnyW where
  val : World
theorem Cl.lo {C : World → Prop} {k i : Nat} (h : i < k) : Cl C k i = C := funext fun w => propext ⟨fun f => f h, fun f _ => f⟩
theorem Cl.hi {C : World → Prop} {k i : Nat} (h : k ≤ i) : Cl C k i = fun w' => ∃ y : AnyW, w' = y.val := funext fun w => propext ⟨fun _ => ⟨⟨w⟩, rfl⟩, fun _ h' => absurd h' (by omega)⟩
section
variable {P : Program} {ops : Array Oper} {md : Region.Mode} {C : World → Prop} {k : Nat}
/-! ### The lexical walk over what is left -/
/-- Operation number i comes up: a calm one in its own world, another one in whatever world it leaves; but for the last one the world is of the class. -/
def stepL (P : Program) (ops : Array Oper) (C : World → Prop) (k : Nat) (i : Nat) (K : Act → World → Prop) (a : Act) (w : World) : Prop :=
  match ops[i]? with
  | none => False
  | some o => if calm o = true then qOp P ops (Cl C k i) i (fun a' => K a' w) a else wpOp P ops NoExit i (fun a' w' => (i + 1 = ops.size ∨ C w') ∧ K a' w') a w
def lexI (P : Program) (ops : Array Oper) (C : World → Prop) (k : Nat) (Q : Act → World → Prop) : List Nat → Act → World → Prop
  | [], a, w => Q a w
  | i :: l, a, w => stepL P ops C k i (lexI P ops C k Q l) a w

theorem stepL_calm {i : Nat} {o : Oper} {K : Act → World → Prop} {a : Act} {w : World} (hi : ops[i]? = some o) (hc : calm o = true) : stepL P ops C k i K a w ↔ ∃ v, YieldsIn P ops (Cl C k i) o v a ∧ K (a.put o.dst v) w := by
  unfold stepL
  simp only [hi, if_pos hc]
  constructor
  · intro h; exact yieldsIn_of_qOp hi h
  · rintro ⟨v, hy, h⟩; exact hy.qOp hi h
theorem stepL_free {i : Nat} {o : Oper} {K : Act → World → Prop} {a : Act} {w : World} (hi : ops[i]? = some o) (hc : ¬ calm o = true) : stepL P ops C k i K a w ↔ wpOp P ops NoExit i (fun a' w' => (i + 1 = ops.size ∨ C w') ∧ K a' w') a w := by
  unfold stepL
  simp only [hi, if_neg hc]

/-- Operation j and each one before it that is left have nothing to do with one another. -/
def Clear (ops : Array Oper) (l : List Nat) (j : Nat) (oj : Oper) : Prop := ∀ i ∈ l, i < j → ∃ oi, ops[i]? = some oi ∧ oj.apart ops oi = true ∧ oi.apart ops oj = true

section
variable {Q : Act → World → Prop} {j : Nat} {oj : Oper}
theorem Clear.tail {i : Nat} {r : List Nat} (h : Clear ops (i :: r) j oj) : Clear ops r j oj := fun k hk => h k (List.mem_cons_of_mem _ hk)

theorem lex_yields (hs : Region.noSelect ops = true) (hj : ops[j]? = some oj) (hc : calm oj = true) : ∀ (l : List Nat) (a : Act) (w : World), l.Pairwise (· < ·) → j ∈ l → Clear ops l j oj → lexI P ops C k Q l a w → ∃ v, YieldsIn P ops (Cl C k j) oj v a
  | [], _, _, _, hm, _, _ => by simp at hm
  | i :: r, a, w, hp, hm, hcl, h => by
    by_cases hij : i = j
    · subst hij
      obtain ⟨v, hv, _⟩ := (stepL_calm hj hc).1 h
      exact ⟨v, hv⟩
    · have hmr : j ∈ r := by simpa [Ne.symm hij] using hm
      have hlt : i < j := (List.pairwise_cons.1 hp).1 j hmr
      obtain ⟨oi, hi, hap, hap'⟩ := hcl i (List.mem_cons_self ..) hlt
      have hsj := Region.noSelect_spec hs j oj
      by_cases hci : calm oi = true
      · obtain ⟨u, _, hK⟩ := (stepL_calm hi hci).1 h
        obtain ⟨v, hv⟩ := lex_yields hs hj hc r _ w (List.pairwise_cons.1 hp).2 hmr hcl.tail hK
        exact ⟨v, Moved.yields' ⟨u, a.defers, rfl⟩ hap (fun cs b => hsj cs b hj) hv⟩
      · obtain ⟨a', w', hmv, _, hK⟩ := wpOp_some hi ((stepL_free hi hci).1 h)
        obtain ⟨v, hv⟩ := lex_yields hs hj hc r a' w' (List.pairwise_cons.1 hp).2 hmr hcl.tail hK
        exact ⟨v, hmv.yields' hap (fun cs b => hsj cs b hj) hv⟩

theorem pull_calm (hs : Region.noSelect ops = true) (hj : ops[j]? = some oj) (hc : calm oj = true) {v : Value} : ∀ (l : List Nat) (a : Act) (w : World), l.Pairwise (· < ·) → j ∈ l → Clear ops l j oj → Cl C k j w → YieldsIn P ops (Cl C k j) oj v a →
    lexI P ops C k Q l a w → lexI P ops C k Q (l.erase j) (a.put oj.dst v) w
  | [], _, _, _, hm, _, _, _, _ => by simp at hm
  | i :: r, a, w, hp, hm, hcl, hw, hy, h => by
    by_cases hij : i = j
    · subst hij
      obtain ⟨u, hu, hK⟩ := (stepL_calm hj hc).1 h
      obtain rfl := yields_one hw hc hy hu
      simpa using hK
    · have hmr : j ∈ r := by simpa [Ne.symm hij] using hm
      have hlt : i < j := (List.pairwise_cons.1 hp).1 j hmr
      obtain ⟨oi, hi, hap, hap'⟩ := hcl i (List.mem_cons_self ..) hlt
      have hsj := Region.noSelect_spec hs j oj
      have hsi := Region.noSelect_spec hs i oi
      obtain ⟨p1, p2, p3⟩ := Oper.apart_spec hap
      rw [List.erase_cons_tail (by simpa using hij)]
      by_cases hci : calm oi = true
      · obtain ⟨u, hu, hK⟩ := (stepL_calm hi hci).1 h
        have hy' := Moved.yields ⟨u, a.defers, rfl⟩ hap (fun cs b => hsj cs b hj) hy
        have := pull_calm hs hj hc r _ w (List.pairwise_cons.1 hp).2 hmr hcl.tail hw hy' hK
        refine (stepL_calm hi hci).2 ⟨u, Moved.yields ⟨v, a.defers, rfl⟩ hap' (fun cs b => hsi cs b hi) hu, ?_⟩
        rw [Act.put_comm a v u p2]
        exact this
      · refine (stepL_free hi hci).2 (reput hi (fun cs b => hsi cs b hi) p1 p2 ?_ ((stepL_free hi hci).1 h))
        rintro a' w' hmv ⟨hw', hK⟩
        have hw'' : C w' := hw'.resolve_left (by have := (Array.getElem?_eq_some_iff.1 hj).1; omega)
        exact ⟨.inr hw'', pull_calm hs hj hc r a' w' (List.pairwise_cons.1 hp).2 hmr hcl.tail (Cl.of hw'') (hmv.yields hap (fun cs b => hsj cs b hj) hy) hK⟩

theorem pull_free (hs : Region.noSelect ops = true) (hj : ops[j]? = some oj) (hc : ¬ calm oj = true) : ∀ (l : List Nat) (a : Act) (w : World), l.Pairwise (· < ·) → j ∈ l → Clear ops l j oj →
    (∀ i ∈ l, i < j → ∀ oi, ops[i]? = some oi → calm oi = true) → lexI P ops C k Q l a w → stepL P ops C k j (lexI P ops C k Q (l.erase j)) a w
  | [], _, _, _, hm, _, _, _ => by simp at hm
  | i :: r, a, w, hp, hm, hcl, hq, h => by
    by_cases hij : i = j
    · subst hij
      rw [List.erase_cons_head]
      exact h
    · have hmr : j ∈ r := by simpa [Ne.symm hij] using hm
      have hlt : i < j := (List.pairwise_cons.1 hp).1 j hmr
      obtain ⟨oi, hi, hap, hap'⟩ := hcl i (List.mem_cons_self ..) hlt
      have hsj := Region.noSelect_spec hs j oj
      have hsi := Region.noSelect_spec hs i oi
      have hci := hq i (List.mem_cons_self ..) hlt oi hi
      obtain ⟨p1, p2, p3⟩ := Oper.apart_spec hap'
      obtain ⟨u, hu, hK⟩ := (stepL_calm hi hci).1 h
      have := pull_free hs hj hc r _ w (List.pairwise_cons.1 hp).2 hmr hcl.tail (fun k hk => hq k (List.mem_cons_of_mem _ hk)) hK
      rw [List.erase_cons_tail (by simpa using hij)]
      refine (stepL_free hj hc).2 (unput hj (fun cs b => hsj cs b hj) p1 p2 ?_ ((stepL_free hj hc).1 this))
      rintro a' w' hmv ⟨hw', hK'⟩
      exact ⟨hw', (stepL_calm hi hci).2 ⟨u, hmv.yields hap' (fun cs b => hsi cs b hi) hu, hK'⟩⟩
end

section
variable {Q : Act → World → Prop} {f : Nat}
/-- The rest without f; f comes last. -/
def QB (P : Program) (ops : Array Oper) (C : World → Prop) (k : Nat) (Q : Act → World → Prop) (f : Nat) (a : Act) (w : World) : Prop := wpOp P ops NoExit f Q a w
/-- Both orders. -/
def lexB (P : Program) (ops : Array Oper) (C : World → Prop) (k : Nat) (Q : Act → World → Prop) (f : Nat) : List Nat → Act → World → Prop
  | [], _, _ => False
  | i :: r, a, w => if i = f then lexI P ops C k Q (f :: r) a w ∧ lexI P ops C k (QB P ops C k Q f) r a w else stepL P ops C k i (lexB P ops C k Q f r) a w
variable {j : Nat} {oj : Oper}
theorem lexB_yields (hs : Region.noSelect ops = true) (hj : ops[j]? = some oj) (hc : calm oj = true) (hjf : j ≠ f) : ∀ (l : List Nat) (a : Act) (w : World), l.Pairwise (· < ·) → j ∈ l → Clear ops l j oj → lexB P ops C k Q f l a w → ∃ v, YieldsIn P ops (Cl C k j) oj v a
  | [], _, _, _, hm, _, _ => by simp at hm
  | i :: r, a, w, hp, hm, hcl, h => by
    unfold lexB at h
    by_cases hif : i = f
    · rw [if_pos hif] at h
      subst hif
      exact lex_yields hs hj hc (i :: r) a w hp hm hcl h.1
    · rw [if_neg hif] at h
      by_cases hij : i = j
      · subst hij
        obtain ⟨v, hv, _⟩ := (stepL_calm hj hc).1 h
        exact ⟨v, hv⟩
      · have hmr : j ∈ r := by simpa [Ne.symm hij] using hm
        have hlt : i < j := (List.pairwise_cons.1 hp).1 j hmr
        obtain ⟨oi, hi, hap, hap'⟩ := hcl i (List.mem_cons_self ..) hlt
        have hsj := Region.noSelect_spec hs j oj
        by_cases hci : calm oi = true
        · obtain ⟨u, _, hK⟩ := (stepL_calm hi hci).1 h
          obtain ⟨v, hv⟩ := lexB_yields hs hj hc hjf r _ w (List.pairwise_cons.1 hp).2 hmr hcl.tail hK
          exact ⟨v, Moved.yields' ⟨u, a.defers, rfl⟩ hap (fun cs b => hsj cs b hj) hv⟩
        · obtain ⟨a', w', hmv, _, hK⟩ := wpOp_some hi ((stepL_free hi hci).1 h)
          obtain ⟨v, hv⟩ := lexB_yields hs hj hc hjf r a' w' (List.pairwise_cons.1 hp).2 hmr hcl.tail hK
          exact ⟨v, hmv.yields' hap (fun cs b => hsj cs b hj) hv⟩
theorem pullB_calm (hs : Region.noSelect ops = true) (hj : ops[j]? = some oj) (hc : calm oj = true) (hjf : j ≠ f) {v : Value} : ∀ (l : List Nat) (a : Act) (w : World), l.Pairwise (· < ·) → j ∈ l → Clear ops l j oj → Cl C k j w → YieldsIn P ops (Cl C k j) oj v a →
    lexB P ops C k Q f l a w → lexB P ops C k Q f (l.erase j) (a.put oj.dst v) w
  | [], _, _, _, hm, _, _, _, _ => by simp at hm
  | i :: r, a, w, hp, hm, hcl, hw, hy, h => by
    unfold lexB at h
    by_cases hif : i = f
    · rw [if_pos hif] at h
      subst hif
      have hmr : j ∈ r := by simpa [hjf] using hm
      have h1 := pull_calm hs hj hc (i :: r) a w hp hm hcl hw hy h.1
      have h2 := pull_calm hs hj hc r a w (List.pairwise_cons.1 hp).2 hmr hcl.tail hw hy h.2
      rw [List.erase_cons_tail (by simpa using Ne.symm hjf)] at h1 ⊢
      unfold lexB
      rw [if_pos rfl]
      exact ⟨h1, h2⟩
    · rw [if_neg hif] at h
      by_cases hij : i = j
      · subst hij
        obtain ⟨u, hu, hK⟩ := (stepL_calm hj hc).1 h
        obtain rfl := yields_one hw hc hy hu
        simpa using hK
      · have hmr : j ∈ r := by simpa [Ne.symm hij] using hm
        have hlt : i < j := (List.pairwise_cons.1 hp).1 j hmr
        obtain ⟨oi, hi, hap, hap'⟩ := hcl i (List.mem_cons_self ..) hlt
        have hsj := Region.noSelect_spec hs j oj
        have hsi := Region.noSelect_spec hs i oi
        obtain ⟨p1, p2, p3⟩ := Oper.apart_spec hap
        rw [List.erase_cons_tail (by simpa using hij)]
        unfold lexB
        rw [if_neg hif]
        by_cases hci : calm oi = true
        · obtain ⟨u, hu, hK⟩ := (stepL_calm hi hci).1 h
          have hy' := Moved.yields ⟨u, a.defers, rfl⟩ hap (fun cs b => hsj cs b hj) hy
          have := pullB_calm hs hj hc hjf r _ w (List.pairwise_cons.1 hp).2 hmr hcl.tail hw hy' hK
          refine (stepL_calm hi hci).2 ⟨u, Moved.yields ⟨v, a.defers, rfl⟩ hap' (fun cs b => hsi cs b hi) hu, ?_⟩
          rw [Act.put_comm a v u p2]
          exact this
        · refine (stepL_free hi hci).2 (reput hi (fun cs b => hsi cs b hi) p1 p2 ?_ ((stepL_free hi hci).1 h))
          rintro a' w' hmv ⟨hw', hK⟩
          have hw'' : C w' := hw'.resolve_left (by have := (Array.getElem?_eq_some_iff.1 hj).1; omega)
          exact ⟨.inr hw'', pullB_calm hs hj hc hjf r a' w' (List.pairwise_cons.1 hp).2 hmr hcl.tail (Cl.of hw'') (hmv.yields hap (fun cs b => hsj cs b hj) hy) hK⟩
/-- A free operation is pulled over calm ones, whatever comes behind. -/
theorem pullB (hs : Region.noSelect ops = true) (hj : ops[j]? = some oj) (hc : ¬ calm oj = true) (R : List Nat → Act → World → Prop)
    (hR : ∀ (i : Nat) (r : List Nat) (oi : Oper) (a : Act) (w : World) (u : Value), i ≠ j → i ≠ f → ops[i]? = some oi → calm oi = true → YieldsIn P ops (Cl C k i) oi u a → R r (a.put oi.dst u) w → R (i :: r) a w)
    (h0 : ∀ (r : List Nat) (a : Act) (w : World), f ∈ j :: r → (j :: r).Pairwise (· < ·) → lexB P ops C k Q f (j :: r) a w → stepL P ops C k j (R r) a w)
    (hF : ∀ (r : List Nat) (a : Act) (w : World), j ≠ f → j ∈ r → (f :: r).Pairwise (· < ·) → (∀ i ∈ r, i < j → ∃ oi, ops[i]? = some oi ∧ calm oi = true ∧ oj.apart ops oi = true ∧ oi.apart ops oj = true) → lexB P ops C k Q f (f :: r) a w → stepL P ops C k j (R ((f :: r).erase j)) a w) :
    ∀ (l : List Nat) (a : Act) (w : World), l.Pairwise (· < ·) → j ∈ l → f ∈ l → (∀ i ∈ l, i < j → i ≠ f → ∃ oi, ops[i]? = some oi ∧ calm oi = true ∧ oj.apart ops oi = true ∧ oi.apart ops oj = true) → lexB P ops C k Q f l a w → stepL P ops C k j (R (l.erase j)) a w
  | [], _, _, _, hm, _, _, _ => by simp at hm
  | i :: r, a, w, hp, hm, hfm, hq, h => by
    by_cases hij : i = j
    · subst hij
      rw [List.erase_cons_head]
      exact h0 r a w hfm hp h
    · have hmr : j ∈ r := by simpa [Ne.symm hij] using hm
      have hlt : i < j := (List.pairwise_cons.1 hp).1 j hmr
      by_cases hif : i = f
      · subst hif
        refine hF r a w (Ne.symm hij) hmr hp (fun k hk hkj => ?_) h
        have hkf : k ≠ i := fun e => by have := (List.pairwise_cons.1 hp).1 k hk; omega
        exact hq k (List.mem_cons_of_mem _ hk) hkj hkf
      · obtain ⟨oi, hi, hci, hap, hap'⟩ := hq i (List.mem_cons_self ..) hlt hif
        have hsj := Region.noSelect_spec hs j oj
        have hsi := Region.noSelect_spec hs i oi
        obtain ⟨p1, p2, p3⟩ := Oper.apart_spec hap'
        unfold lexB at h
        rw [if_neg hif] at h
        obtain ⟨u, hu, hK⟩ := (stepL_calm hi hci).1 h
        have := pullB hs hj hc R hR h0 hF r _ w (List.pairwise_cons.1 hp).2 hmr (by simpa [Ne.symm hif] using hfm) (fun k hk => hq k (List.mem_cons_of_mem _ hk)) hK
        rw [List.erase_cons_tail (by simpa using hij)]
        refine (stepL_free hj hc).2 (unput hj (fun cs b => hsj cs b hj) p1 p2 ?_ ((stepL_free hj hc).1 this))
        rintro a' w' hmv ⟨hw', hK'⟩
        exact ⟨hw', hR i (r.erase j) oi a' w' u hij hif hi hci (hmv.yields hap' (fun cs b => hsi cs b hi) hu) hK'⟩
theorem pullB_free (hs : Region.noSelect ops = true) (hj : ops[j]? = some oj) (hc : ¬ calm oj = true) (hjf : j < f) (l : List Nat) (a : Act) (w : World) (hp : l.Pairwise (· < ·)) (hm : j ∈ l) (hfm : f ∈ l) (hq : ∀ i ∈ l, i < j → i ≠ f → ∃ oi, ops[i]? = some oi ∧ calm oi = true ∧ oj.apart ops oi = true ∧ oi.apart ops oj = true) (h : lexB P ops C k Q f l a w) :
    stepL P ops C k j (lexB P ops C k Q f (l.erase j)) a w := by
  refine pullB hs hj hc (lexB P ops C k Q f) (fun i r oi a w u _ hif hi hci hy hK => ?_) (fun r a w _ _ h => ?_) (fun r a w hne hjr hp _ _ => ?_) l a w hp hm hfm hq h
  · unfold lexB
    rw [if_neg hif]
    exact (stepL_calm hi hci).2 ⟨u, hy, hK⟩
  · unfold lexB at h
    rw [if_neg (by omega)] at h
    exact h
  · have := (List.pairwise_cons.1 hp).1 j hjr
    omega
theorem pullB_f {of : Oper} (hs : Region.noSelect ops = true) (hj : ops[f]? = some of) (hc : ¬ calm of = true) (l : List Nat) (a : Act) (w : World) (hp : l.Pairwise (· < ·)) (hfm : f ∈ l) (hq : ∀ i ∈ l, i < f → i ≠ f → ∃ oi, ops[i]? = some oi ∧ calm oi = true ∧ of.apart ops oi = true ∧ oi.apart ops of = true) (h : lexB P ops C k Q f l a w) :
    stepL P ops C k f (lexI P ops C k Q (l.erase f)) a w := by
  refine pullB hs hj hc (lexI P ops C k Q) (fun i r oi a w u _ hif hi hci hy hK => ?_) (fun r a w _ _ h => ?_) (fun r a w hne hjr hp _ _ => absurd rfl hne) l a w hp hfm hfm hq h
  · exact (stepL_calm hi hci).2 ⟨u, hy, hK⟩
  · unfold lexB at h
    rw [if_pos rfl] at h
    exact h.1
theorem pullB_L (hs : Region.noSelect ops = true) (hj : ops[j]? = some oj) (hc : ¬ calm oj = true) (hfj : f < j) (l : List Nat) (a : Act) (w : World) (hp : l.Pairwise (· < ·)) (hm : j ∈ l) (hfm : f ∈ l) (hq : ∀ i ∈ l, i < j → i ≠ f → ∃ oi, ops[i]? = some oi ∧ calm oi = true ∧ oj.apart ops oi = true ∧ oi.apart ops oj = true) (h : lexB P ops C k Q f l a w) :
    stepL P ops C k j (lexI P ops C k (QB P ops C k Q f) ((l.erase j).erase f)) a w := by
  refine pullB hs hj hc (fun l a w => lexI P ops C k (QB P ops C k Q f) (l.erase f) a w) (fun i r oi a w u _ hif hi hci hy hK => ?_) (fun r a w hfm hp h => ?_) (fun r a w hne hjr hp hcl h => ?_) l a w hp hm hfm hq h
  · show lexI P ops C k (QB P ops C k Q f) ((i :: r).erase f) a w
    rw [List.erase_cons_tail (by simpa using hif)]
    exact (stepL_calm hi hci).2 ⟨u, hy, hK⟩
  · have hfr : f ∈ r := by
      rcases List.mem_cons.1 hfm with e | e
      · omega
      · exact e
    have := (List.pairwise_cons.1 hp).1 f hfr
    omega
  · unfold lexB at h
    rw [if_pos rfl] at h
    have h2 := pull_free hs hj hc r a w (List.pairwise_cons.1 hp).2 hjr (fun i hi hij => by obtain ⟨oi, h1, _, h3, h4⟩ := hcl i hi hij; exact ⟨oi, h1, h3, h4⟩) (fun i hi hij oi hoi => by
      obtain ⟨oi', h1, h2, _⟩ := hcl i hi hij
      obtain rfl : oi' = oi := Option.some.inj (h1.symm.trans hoi)
      exact h2) h.2
    have e : (((f :: r).erase j).erase f) = r.erase j := by
      rw [List.erase_cons_tail (by simp; omega), List.erase_cons_head]
    rw [e]
    exact h2
/-- What is asked of the region, by the kernel: f and the last operation are the only two that come in either order. -/
def rivB (md : Region.Mode) (ops : Array Oper) (k f : Nat) : Bool :=
  Region.noSelect ops && decide (f + 1 < ops.size) && (match ops[f]? with | some o => !calm o | none => false) && (match ops[ops.size - 1]? with | some o => !calm o | none => false) &&
  ((List.range ops.size).all fun j => match ops[j]? with
    | none => false
    | some oj => oj.after.all (fun e => !Region.binds md e || decide (e.on < j)) &&
      (List.range j).all fun i => match ops[i]? with
        | none => false
        | some oi => Region.waitsFor md ops j i || (oj.apart ops oi && oi.apart ops oj && (calm oi || calm oj)) || wLink md ops ops.size j i || (decide (i = f) && decide (j + 1 = ops.size))) &&
  (List.range (ops.size - 1)).all fun i => decide (i = f) || Region.waitsFor md ops (ops.size - 1) i || wLink md ops ops.size (ops.size - 1) i || (decide (k ≤ i) && Region.waitsFor md ops f i) || (decide (k ≤ i) && wLink md ops ops.size f i)
def St (P : Program) (ops : Array Oper) (C : World → Prop) (k : Nat) (Q : Act → World → Prop) (f : Nat) (l : List Nat) (a : Act) (w : World) : Prop :=
  (f ∉ l ∧ lexI P ops C k Q l a w) ∨ (f ∈ l ∧ ops.size - 1 ∈ l ∧ lexB P ops C k Q f l a w) ∨ (f ∈ l ∧ ops.size - 1 ∉ l ∧ lexI P ops C k (QB P ops C k Q f) (l.erase f) a w)
set_option maxHeartbeats 1600000 in
theorem any_rival {Q' : Exit → Act → World → Prop} (hB : rivB md ops k f = true) (hQ : ∀ a w, Q a w → Q' .normal a w) : ∀ (n : Nat) (l : List Nat) (listed : Array Bool) (a : Act) (w : World), l.length = n → l.Pairwise (· < ·) →
    (∀ j, j ∈ l ↔ j < ops.size ∧ listed.getD j true = false) → listed.size = ops.size → Closed md ops listed → (C w ∨ ∀ i ∈ l, (∃ oi, ops[i]? = some oi ∧ calm oi = true) → k ≤ i) → St P ops C k Q f l a w → wpAny P md ops Q' n listed a w
  | 0, l, listed, a, w, hn, _, hl, _, _, _, h => by
    obtain rfl := List.eq_nil_of_length_eq_zero hn
    refine ⟨?_, hQ _ _ ?_⟩
    · rw [List.eq_nil_iff_forall_not_mem]
      intro j hj
      obtain ⟨h0, oj, hoj, _⟩ := mem_ready.1 hj
      have := (hl j).2 ⟨(Array.getElem?_eq_some_iff.1 hoj).1, h0⟩
      simp at this
    · rcases h with ⟨_, h⟩ | ⟨h, _⟩ | ⟨h, _⟩
      · exact h
      · simp at h
      · simp at h
  | n + 1, l, listed, a, w, hn, hp, hl, hsz, hcl, hw, h => by
    have hne : l ≠ [] := by intro e; subst e; simp at hn
    have hwj : ∀ j oj, ops[j]? = some oj → j ∈ l → calm oj = true → Cl C k j w := fun j oj hoj hjl hc hjk => by
      rcases hw with hw | hw
      · exact hw
      · have := hw j hjl ⟨oj, hoj, hc⟩
        omega
    have hB' := hB
    simp only [rivB, Bool.and_eq_true, decide_eq_true_eq] at hB
    obtain ⟨⟨⟨⟨⟨hsel, hfs⟩, hfc⟩, hLc⟩, hall⟩, hK⟩ := hB
    obtain ⟨of, hof⟩ : ∃ of, ops[f]? = some of := ⟨ops[f], Array.getElem?_eq_getElem (by omega)⟩
    obtain ⟨oL, hoL⟩ : ∃ oL, ops[ops.size - 1]? = some oL := ⟨ops[ops.size - 1], Array.getElem?_eq_getElem (by omega)⟩
    have hfc' : ¬ calm of = true := by simpa [hof] using hfc
    have hLc' : ¬ calm oL = true := by simpa [hoL] using hLc
    have info : ∀ j oj, ops[j]? = some oj → (∀ e ∈ oj.after, Region.binds md e = true → e.on < j) ∧ ∀ i, i < j → ∃ oi, ops[i]? = some oi ∧ (Region.waitsFor md ops j i = true ∨ (oj.apart ops oi = true ∧ oi.apart ops oj = true ∧ (calm oi = true ∨ calm oj = true)) ∨ wLink md ops ops.size j i = true ∨ (i = f ∧ j + 1 = ops.size)) := by
      intro j oj hj
      have h1 := List.all_eq_true.1 hall j (List.mem_range.2 (Array.getElem?_eq_some_iff.1 hj).1)
      simp only [hj, Bool.and_eq_true] at h1
      refine ⟨fun e he hb => ?_, fun i hi => ?_⟩
      · have := Array.all_eq_true_iff_forall_mem.1 h1.1 e he
        simpa [hb] using this
      · have h2 := List.all_eq_true.1 h1.2 i (List.mem_range.2 hi)
        cases ho : ops[i]? with
        | none => simp [ho] at h2
        | some oi =>
          simp only [ho, Bool.or_eq_true, Bool.and_eq_true, decide_eq_true_eq] at h2
          refine ⟨oi, rfl, ?_⟩
          rcases h2 with ((h2 | ⟨⟨h2, h3⟩, h4⟩) | h2) | h2
          · exact .inl h2
          · exact .inr (.inl ⟨h2, h3, h4⟩)
          · exact .inr (.inr (.inl h2))
          · exact .inr (.inr (.inr h2))
    have getT : ∀ {k : Nat}, k < ops.size → k ∉ l → listed.getD k false = true := fun {k} hk hnk => by
      have : ¬ listed.getD k true = false := fun e => hnk ((hl k).2 ⟨hk, e⟩)
      have hk' : k < listed.size := by omega
      simp [hk'] at this ⊢
      exact this
    have getF : ∀ {k : Nat}, k ∈ l → listed.getD k false = false := fun {k} hk => getD_both ((hl k).1 hk).2
    -- what is waited for is not left
    have nowait : ∀ (j : Nat) (oj : Oper), ops[j]? = some oj → (∀ e ∈ oj.after, Region.binds md e = true → listed.getD e.on false = true) → ∀ i ∈ l, (Region.waitsFor md ops j i = true → False) ∧ (wLink md ops ops.size j i = true → False) := fun j oj hoj hdep i hi => by
      refine ⟨fun h1 => ?_, fun h1 => ?_⟩
      · obtain ⟨oj', hoj', e, he, hb, hon⟩ := Region.waitsFor_spec h1
        obtain rfl : oj' = oj := Option.some.inj (hoj'.symm.trans hoj)
        have := hdep e he hb
        rw [hon, getF hi] at this
        cases this
      · have := link_listed hcl ops.size j i oj hoj h1 hdep
        rw [getF hi] at this
        cases this
    have doneDep : ∀ (j : Nat) (oj : Oper), ops[j]? = some oj → j ∉ l → ∀ e ∈ oj.after, Region.binds md e = true → listed.getD e.on false = true := fun j oj hoj hjl => hcl j oj hoj (getT (Array.getElem?_eq_some_iff.1 hoj).1 hjl)
    refine ⟨fun h0 => ?_, fun j hj => ?_⟩
    · exfalso
      obtain ⟨i0, r, rfl⟩ : ∃ i0 r, l = i0 :: r := by cases l with | nil => exact absurd rfl hne | cons i r => exact ⟨i, r, rfl⟩
      obtain ⟨hi0, hu0⟩ := (hl i0).1 (List.mem_cons_self ..)
      have : i0 ∈ Region.ready md ops listed := by
        refine mem_ready.2 ⟨hu0, ops[i0], Array.getElem?_eq_getElem hi0, fun e he hb => ?_⟩
        have hlt := (info i0 _ (Array.getElem?_eq_getElem hi0)).1 e he hb
        refine getT (by omega) fun hm => ?_
        rcases List.mem_cons.1 hm with h1 | h1
        · omega
        · have := (List.pairwise_cons.1 hp).1 _ h1; omega
      rw [h0] at this
      cases this
    · obtain ⟨hu, oj, hoj, hdep⟩ := mem_ready.1 hj
      have hjs := (Array.getElem?_eq_some_iff.1 hoj).1
      have hjl : j ∈ l := (hl j).2 ⟨hjs, hu⟩
      have before : ∀ i ∈ l, i < j → ¬ (i = f ∧ j + 1 = ops.size) → ∃ oi, ops[i]? = some oi ∧ oj.apart ops oi = true ∧ oi.apart ops oj = true ∧ (calm oi = true ∨ calm oj = true) := fun i hi hij hnr => by
        obtain ⟨oi, hoi, h1 | ⟨h1, h2, h3⟩ | h1 | h1⟩ := (info j oj hoj).2 i hij
        · exact absurd h1 (nowait j oj hoj hdep i hi).1
        · exact ⟨oi, hoi, h1, h2, h3⟩
        · exact absurd h1 (nowait j oj hoj hdep i hi).2
        · exact absurd h1 hnr
      have hnd : l.Nodup := hp.imp (fun h => Nat.ne_of_lt h)
      have rest : ∀ (a' : Act) (w' : World), (C w' ∨ ∀ i ∈ l.erase j, (∃ oi, ops[i]? = some oi ∧ calm oi = true) → k ≤ i) → St P ops C k Q f (l.erase j) a' w' → wpAny P md ops Q' n (listed.setIfInBounds j true) a' w' := fun a' w' hw' hK => by
        refine any_rival hB' hQ n (l.erase j) _ a' w' ?_ (hp.sublist (List.erase_sublist ..)) (fun k => ?_) (by simpa using hsz) (closed_set hcl hj) hw' hK
        · rw [List.length_erase_of_mem hjl, hn]; rfl
        · rw [hnd.mem_erase_iff, hl k]
          by_cases hkj : j = k
          · subst hkj
            have hjl' : j < listed.size := by omega
            simp [hjl']
          · rw [getD_set_ne true hkj]
            exact ⟨fun h => h.2, fun h => ⟨fun e => hkj e.symm, h⟩⟩
      by_cases hc : calm oj = true
      · have hjf : j ≠ f := by
          rintro rfl
          obtain rfl : of = oj := Option.some.inj (hof.symm.trans hoj)
          exact hfc' hc
        have hjL : j ≠ ops.size - 1 := by
          rintro rfl
          obtain rfl : oL = oj := Option.some.inj (hoL.symm.trans hoj)
          exact hLc' hc
        have clear : Clear ops l j oj := fun i hi hij => by
          obtain ⟨oi, hoi, h1, h2, _⟩ := before i hi hij (by omega)
          exact ⟨oi, hoi, h1, h2⟩
        have key : ∃ v, YieldsIn P ops (Cl C k j) oj v a ∧ St P ops C k Q f (l.erase j) (a.put oj.dst v) w := by
          rcases h with ⟨h1, h⟩ | ⟨h1, h2, h⟩ | ⟨h1, h2, h⟩
          · obtain ⟨v, hv⟩ := lex_yields hsel hoj hc l a w hp hjl clear h
            exact ⟨v, hv, .inl ⟨fun hm => h1 (List.mem_of_mem_erase hm), pull_calm hsel hoj hc l a w hp hjl clear (hwj j oj hoj hjl hc) hv h⟩⟩
          · obtain ⟨v, hv⟩ := lexB_yields hsel hoj hc hjf l a w hp hjl clear h
            exact ⟨v, hv, .inr (.inl ⟨(List.mem_erase_of_ne hjf.symm).2 h1, (List.mem_erase_of_ne hjL.symm).2 h2, pullB_calm hsel hoj hc hjf l a w hp hjl clear (hwj j oj hoj hjl hc) hv h⟩)⟩
          · have hjl2 : j ∈ l.erase f := (List.mem_erase_of_ne hjf).2 hjl
            have hp2 := hp.sublist (List.erase_sublist (a := f))
            have clear2 : Clear ops (l.erase f) j oj := fun i hi hij => clear i (List.mem_of_mem_erase hi) hij
            obtain ⟨v, hv⟩ := lex_yields hsel hoj hc _ a w hp2 hjl2 clear2 h
            have h3 := pull_calm hsel hoj hc _ a w hp2 hjl2 clear2 (hwj j oj hoj hjl hc) hv h
            rw [List.erase_comm] at h3
            exact ⟨v, hv, .inr (.inr ⟨(List.mem_erase_of_ne hjf.symm).2 h1, fun hm => h2 (List.mem_of_mem_erase hm), h3⟩)⟩
        obtain ⟨v, hv, hK⟩ := key
        exact wpOp_of_calm hoj hc (hwj j oj hoj hjl hc) hv (rest _ _ (hw.imp id fun hh i hi => hh i (List.mem_of_mem_erase hi)) hK)
      · have calmBefore : ∀ i ∈ l, i < j → ¬ (i = f ∧ j + 1 = ops.size) → ∃ oi, ops[i]? = some oi ∧ calm oi = true ∧ oj.apart ops oi = true ∧ oi.apart ops oj = true := fun i hi hij hnr => by
          obtain ⟨oi, hoi, h1, h2, h3⟩ := before i hi hij hnr
          exact ⟨oi, hoi, h3.resolve_right hc, h1, h2⟩
        have key : wpOp P ops NoExit j (fun a' w' => (C w' ∨ ∀ i ∈ l.erase j, (∃ oi, ops[i]? = some oi ∧ calm oi = true) → k ≤ i) ∧ St P ops C k Q f (l.erase j) a' w') a w := by
          rcases h with ⟨h1, h⟩ | ⟨h1, h2, h⟩ | ⟨h1, h2, h⟩
          · have clear : Clear ops l j oj := fun i hi hij => by
              obtain ⟨oi, hoi, _, h3, h4⟩ := calmBefore i hi hij (fun e => h1 (e.1 ▸ hi))
              exact ⟨oi, hoi, h3, h4⟩
            have hs := pull_free hsel hoj hc l a w hp hjl clear (fun i hi hij oi hoi => by
              obtain ⟨oi', hoi', h3, _⟩ := calmBefore i hi hij (fun e => h1 (e.1 ▸ hi))
              obtain rfl : oi' = oi := Option.some.inj (hoi'.symm.trans hoi)
              exact h3) h
            refine wpOp_mono ?_ ((stepL_free hoj hc).1 hs)
            rintro a' w' ⟨hw', hK2⟩
            refine ⟨(hw'.imp (fun hlast => ?_) id).symm, .inl ⟨fun hm => h1 (List.mem_of_mem_erase hm), hK2⟩⟩
            intro i hi _
            exfalso
            rw [hnd.mem_erase_iff] at hi
            have hi2 := (hl i).1 hi.2
            obtain rfl : j = ops.size - 1 := by omega
            have hk := List.all_eq_true.1 hK i (List.mem_range.2 (by omega))
            simp only [Bool.or_eq_true, Bool.and_eq_true, decide_eq_true_eq] at hk
            rcases hk with (((e | e) | e) | ⟨_, e⟩) | ⟨_, e⟩
            · exact h1 (e ▸ hi.2)
            · exact (nowait _ oj hoj hdep i hi.2).1 e
            · exact (nowait _ oj hoj hdep i hi.2).2 e
            · exact (nowait f of hof (doneDep f of hof h1) i hi.2).1 e
            · exact (nowait f of hof (doneDep f of hof h1) i hi.2).2 e
          · by_cases hjf : j = f
            · subst hjf
              obtain rfl : of = oj := Option.some.inj (hof.symm.trans hoj)
              have hs := pullB_f hsel hoj hc l a w hp hjl (fun i hi hij _ => calmBefore i hi hij (by omega)) h
              refine wpOp_mono ?_ ((stepL_free hoj hc).1 hs)
              rintro a' w' ⟨hw', hK2⟩
              exact ⟨.inl (hw'.resolve_left (by omega)), .inl ⟨fun hm => (hnd.mem_erase_iff.1 hm).1 rfl, hK2⟩⟩
            · by_cases hjL : j = ops.size - 1
              · have hs := pullB_L hsel hoj hc (f := f) (by omega) l a w hp hjl h1 (fun i hi hij hif => calmBefore i hi hij (fun e => hif e.1)) h
                refine wpOp_mono ?_ ((stepL_free hoj hc).1 hs)
                rintro a' w' ⟨hw', hK2⟩
                have hC : ∀ i ∈ l.erase j, (∃ oi, ops[i]? = some oi ∧ calm oi = true) → k ≤ i := fun i hi hci => by
                  have hi2 := hnd.mem_erase_iff.1 hi
                  have hi3 := (hl i).1 hi2.2
                  have hk := List.all_eq_true.1 hK i (List.mem_range.2 (by omega))
                  simp only [Bool.or_eq_true, Bool.and_eq_true, decide_eq_true_eq] at hk
                  rcases hk with (((e | e) | e) | ⟨e, _⟩) | ⟨e, _⟩
                  · obtain ⟨oi, hoi, hci⟩ := hci
                    subst e
                    obtain rfl : of = oi := Option.some.inj (hof.symm.trans hoi)
                    exact absurd hci hfc'
                  · exact absurd e (nowait _ oj (hjL ▸ hoj) hdep i hi2.2).1
                  · exact absurd e (nowait _ oj (hjL ▸ hoj) hdep i hi2.2).2
                  · exact e
                  · exact e
                refine ⟨.inr hC, .inr (.inr ⟨(List.mem_erase_of_ne (Ne.symm hjf)).2 h1, fun hm => (hnd.mem_erase_iff.1 (hjL ▸ hm)).1 (by omega), hK2⟩)⟩
              · have hjf2 : j < f := by
                  rcases Nat.lt_or_ge j f with e | e
                  · exact e
                  · obtain ⟨oi, hoi, h3, _⟩ := calmBefore f h1 (by omega) (by omega)
                    obtain rfl : of = oi := Option.some.inj (hof.symm.trans hoi)
                    exact absurd h3 hfc'
                have hs := pullB_free hsel hoj hc hjf2 l a w hp hjl h1 (fun i hi hij _ => calmBefore i hi hij (by omega)) h
                refine wpOp_mono ?_ ((stepL_free hoj hc).1 hs)
                rintro a' w' ⟨hw', hK2⟩
                exact ⟨.inl (hw'.resolve_left (by omega)), .inr (.inl ⟨(List.mem_erase_of_ne (Ne.symm hjf)).2 h1, (List.mem_erase_of_ne (Ne.symm hjL)).2 h2, hK2⟩)⟩
          · by_cases hjf : j = f
            · subst hjf
              obtain rfl : of = oj := Option.some.inj (hof.symm.trans hoj)
              have hnil : l.erase j = [] := by
                rw [List.eq_nil_iff_forall_not_mem]
                intro i hi
                rw [hnd.mem_erase_iff] at hi
                have hi2 := (hl i).1 hi.2
                have hiL : i ≠ ops.size - 1 := fun e => h2 (e ▸ hi.2)
                have hk := List.all_eq_true.1 hK i (List.mem_range.2 (by omega))
                simp only [Bool.or_eq_true, Bool.and_eq_true, decide_eq_true_eq] at hk
                rcases hk with (((e | e) | e) | ⟨_, e⟩) | ⟨_, e⟩
                · exact hi.1 e
                · exact (nowait _ oL hoL (doneDep _ oL hoL h2) i hi.2).1 e
                · exact (nowait _ oL hoL (doneDep _ oL hoL h2) i hi.2).2 e
                · exact (nowait _ of hoj hdep i hi.2).1 e
                · exact (nowait _ of hoj hdep i hi.2).2 e
              rw [hnil] at h ⊢
              refine wpOp_mono ?_ h
              intro a' w' hK2
              exact ⟨.inr fun i hi => by simp at hi, .inl ⟨by simp, hK2⟩⟩
            · have hjL : j ≠ ops.size - 1 := fun e => h2 (e ▸ hjl)
              have hjl2 : j ∈ l.erase f := (List.mem_erase_of_ne hjf).2 hjl
              have hp2 := hp.sublist (List.erase_sublist (a := f))
              have hs := pull_free hsel hoj hc _ a w hp2 hjl2 (fun i hi hij => by
                obtain ⟨oi, hoi, _, h3, h4⟩ := calmBefore i (List.mem_of_mem_erase hi) hij (by omega)
                exact ⟨oi, hoi, h3, h4⟩) (fun i hi hij oi hoi => by
                obtain ⟨oi', hoi', h3, _⟩ := calmBefore i (List.mem_of_mem_erase hi) hij (by omega)
                obtain rfl : oi' = oi := Option.some.inj (hoi'.symm.trans hoi)
                exact h3) h
              refine wpOp_mono ?_ ((stepL_free hoj hc).1 hs)
              rintro a' w' ⟨hw', hK2⟩
              rw [List.erase_comm] at hK2
              exact ⟨.inl (hw'.resolve_left (by omega)), .inr (.inr ⟨(List.mem_erase_of_ne (Ne.symm hjf)).2 h1, fun hm => h2 (List.mem_of_mem_erase hm), hK2⟩)⟩
        exact wpOp_exit (wpOp_mono (fun a' w' hh => rest a' w' hh.1 hh.2) key)
/-- The region: both orders are walked. -/
theorem wp_region_rival {id : Nat} {Q : Exit → Act → World → Prop} {a : Act} {w : World} {l : List Oper} (k f : Nat) (hC : ∀ x : Ext w, C x.val) (hm : P.follows .mixedOrders = true) (hB : rivB .any l.toArray k f = true)
    (h : ∀ x : Ext w, lexB P l.toArray C k (fun a' w' => Q .normal a' w') f (List.range l.length) a x.val) : (Code.region id l.toArray true).wp P Q a w := by
  obtain ⟨x, hx⟩ := Cls.start w
  refine wp_region_any hm ?_
  rw [hx]
  have hf : f + 1 < l.length := by
    have hB2 := hB
    simp only [rivB, Bool.and_eq_true, decide_eq_true_eq] at hB2
    simpa using hB2.1.1.1.1.2
  refine any_rival (C := C) (k := k) (f := f) (Q := fun a' w' => Q .normal a' w') hB (fun _ _ h => h) _ (List.range l.length) _ a x.val (by simp) List.pairwise_lt_range (fun j => ?_) (by simp) ?_ (.inl (hC x)) (.inr (.inl ⟨List.mem_range.2 (by omega), List.mem_range.2 (by simp; omega), h x⟩))
  · rw [List.mem_range]
    simp only [List.size_toArray]
    constructor
    · intro hj
      exact ⟨hj, by simp [hj]⟩
    · intro hj; omega
  · intro j oj hj hl
    rw [getD_replicate_false] at hl
    cases hl
/-! ### The walk -/
section
variable {i : Nat} {o : Oper} {r : List Nat} {a : Act} {w : World} {K : Act → World → Prop}
theorem calm_of_list (hi : ops[i]? = some o) (hc : calm o = true) (h : ∀ K' : Act → Prop, (∀ a', K a' w → K' a') → wpQuiet P ops (Cl C k i) K' [o] a) : stepL P ops C k i K a w := by
  have hq : qOp P ops (Cl C k i) i (fun a' => K a' w) a := by
    have h1 := h (fun a' => K a' w) fun _ h => h
    unfold qOp
    simp only [hi]
    simpa [wpQuiet] using h1
  obtain ⟨v, hy, hK⟩ := yieldsIn_of_qOp hi hq
  exact (stepL_calm hi hc).2 ⟨v, hy, hK⟩
theorem free_of_list (hi : ops[i]? = some o) (hc : calm o = false) (h : ∀ K' : Exit → Act → World → Prop, (∀ a' w', (i + 1 = ops.size ∨ C w') → K a' w' → K' .normal a' w') → wpList P ops K' [o] a w) : stepL P ops C k i K a w := by
  have h := h (fun e a' w' => e = .normal ∧ (i + 1 = ops.size ∨ C w') ∧ K a' w') fun _ _ h1 h2 => ⟨rfl, h1, h2⟩
  refine (stepL_free hi (by rw [hc]; exact Bool.false_ne_true)).2 ?_
  unfold wpOp
  simp only [hi]
  unfold wpList at h
  split
  · rename_i hw
    rw [if_pos hw] at h
    left
    rcases h with h | ⟨_, b, w1, h⟩
    · unfold Oper.wp at *
      generalize (execOp a.eval o).run P w = r at *
      cases r with
      | ok n w' =>
        cases n <;> simp only [Oper.upon, wpList] at h ⊢
        case enter f args =>
          refine Calls.mono h fun e w'' he => ?_
          cases e with
          | returned u => exact he.2
          | panicked c => exact absurd he.1 (by simp)
          | outgrown => obtain ⟨b, w1, he⟩ := he; exact absurd he.1 (by simp)
        case row row args => exact Rows.mono h fun u w'' he => he.2
        all_goals exact h.2
      | halt y w' => cases y <;> simp only [Oper.upon] at h ⊢; exact absurd h.1 (by simp)
    · exact absurd h.1 (by simp)
  · rename_i hw
    rw [if_neg hw] at h
    exact h.2
theorem op_of_list (hi : ops[i]? = some o) (h : ∀ K' : Exit → Act → World → Prop, (∀ a' w', K a' w' → K' .normal a' w') → wpList P ops K' [o] a w) : wpOp P ops NoExit i K a w := by
  have h := h (fun e a' w' => e = .normal ∧ K a' w') fun _ _ h1 => ⟨rfl, h1⟩
  unfold wpOp
  simp only [hi]
  unfold wpList at h
  split
  · rename_i hw
    rw [if_pos hw] at h
    left
    rcases h with h | ⟨_, b, w1, h⟩
    · unfold Oper.wp at *
      generalize (execOp a.eval o).run P w = r at *
      cases r with
      | ok n w' =>
        cases n <;> simp only [Oper.upon, wpList] at h ⊢
        case enter f args =>
          refine Calls.mono h fun e w'' he => ?_
          cases e with
          | returned u => exact he.2
          | panicked c => exact absurd he.1 (by simp)
          | outgrown => obtain ⟨b, w1, he⟩ := he; exact absurd he.1 (by simp)
        case row row args => exact Rows.mono h fun u w'' he => he.2
        all_goals exact h.2
      | halt y w' => cases y <;> simp only [Oper.upon] at h ⊢; exact absurd h.1 (by simp)
    · exact absurd h.1 (by simp)
  · rename_i hw
    rw [if_neg hw] at h
    exact h.2
theorem at_list {l : List Oper} (hi : l[i]? = some o) : l.toArray[i]? = some o := by simpa using hi
theorem lexI_calm_l {l : List Oper} (hi : l[i]? = some o) (hc : calm o = true) (h : ∀ K' : Act → Prop, (∀ a', lexI P l.toArray C k Q r a' w → K' a') → wpQuiet P l.toArray (Cl C k i) K' [o] a) : lexI P l.toArray C k Q (i :: r) a w := calm_of_list (at_list hi) hc h
theorem lexI_free_l {l : List Oper} (hi : l[i]? = some o) (hc : calm o = false) (h : ∀ K' : Exit → Act → World → Prop, (∀ a' w', (i + 1 = l.toArray.size ∨ C w') → lexI P l.toArray C k Q r a' w' → K' .normal a' w') → wpList P l.toArray K' [o] a w) : lexI P l.toArray C k Q (i :: r) a w := free_of_list (at_list hi) hc h
theorem lexI_done (h : Q a w) : lexI P ops C k Q [] a w := h
theorem qb_l {l : List Oper} (hi : l[f]? = some o) (h : ∀ K' : Exit → Act → World → Prop, (∀ a' w', Q a' w' → K' .normal a' w') → wpList P l.toArray K' [o] a w) : lexI P l.toArray C k (QB P l.toArray C k Q f) [] a w := op_of_list (at_list hi) h
theorem lexB_calm_l {l : List Oper} (hi : l[i]? = some o) (hif : i ≠ f) (hc : calm o = true) (h : ∀ K' : Act → Prop, (∀ a', lexB P l.toArray C k Q f r a' w → K' a') → wpQuiet P l.toArray (Cl C k i) K' [o] a) : lexB P l.toArray C k Q f (i :: r) a w := by
  unfold lexB
  rw [if_neg hif]
  exact calm_of_list (at_list hi) hc h
theorem lexB_free_l {l : List Oper} (hi : l[i]? = some o) (hif : i ≠ f) (hc : calm o = false) (h : ∀ K' : Exit → Act → World → Prop, (∀ a' w', (i + 1 = l.toArray.size ∨ C w') → lexB P l.toArray C k Q f r a' w' → K' .normal a' w') → wpList P l.toArray K' [o] a w) : lexB P l.toArray C k Q f (i :: r) a w := by
  unfold lexB
  rw [if_neg hif]
  exact free_of_list (at_list hi) hc h
theorem lexB_lo {l : List Oper} (hi : l[i]? = some o) (hif : i ≠ f) (hc : calm o = true) (hk : i < k) (h : ∀ K' : Act → Prop, (∀ a', lexB P l.toArray C k Q f r a' w → K' a') → wpQuiet P l.toArray C K' [o] a) : lexB P l.toArray C k Q f (i :: r) a w := by
  refine lexB_calm_l hi hif hc ?_
  rw [Cl.lo hk]
  exact h
theorem lexB_hi {l : List Oper} (hi : l[i]? = some o) (hif : i ≠ f) (hc : calm o = true) (hk : k ≤ i) (h : ∀ K' : Act → Prop, (∀ a', lexB P l.toArray C k Q f r a' w → K' a') → wpQuiet P l.toArray (fun w' => ∃ y : AnyW, w' = y.val) K' [o] a) : lexB P l.toArray C k Q f (i :: r) a w := by
  refine lexB_calm_l hi hif hc ?_
  rw [Cl.hi hk]
  exact h
theorem lexI_hi {l : List Oper} (hi : l[i]? = some o) (hc : calm o = true) (hk : k ≤ i) (h : ∀ K' : Act → Prop, (∀ a', lexI P l.toArray C k Q r a' w → K' a') → wpQuiet P l.toArray (fun w' => ∃ y : AnyW, w' = y.val) K' [o] a) : lexI P l.toArray C k Q (i :: r) a w := by
  refine lexI_calm_l hi hc ?_
  rw [Cl.hi hk]
  exact h
theorem lexB_both {l : List Oper} (h1 : lexI P l.toArray C k Q (f :: r) a w) (h2 : lexI P l.toArray C k (QB P l.toArray C k Q f) r a w) : lexB P l.toArray C k Q f (f :: r) a w := by
  unfold lexB
  rw [if_pos rfl]
  exact ⟨h1, h2⟩
end
end
end
end Go.Proofs.YtpddkljedhghkaaDoor.LN.LR
