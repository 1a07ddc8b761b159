/-
  Regions that draw their order and in which new variables are laid beside calls: one walk serves every order, whatever the new variables' addresses.
  Conditions: the operations before the m-th are quiet (each leaves all that lay in its own world as it was), the next ones up to the n-th lay new variables, the others come in one order.
-/
import Derived.Test.YthlaejodajdioaaTail
import Derived.BigQuiet
namespace Go.Proofs.Ythlaejodajdioaa
open Go Go.RowKit

section
variable {P : Program} {ops : Array Oper} {md : Region.Mode} {C : World → Prop}

/-- One value in every world of the class; a call leaves all that lay in the world that it got. -/
def quietR (P : Program) (o : Oper) (a : Act) (C : World → Prop) (K : Act → Prop) : Prop := ∃ v, (∀ w, C w → o.quietAt P a (Cls w) w v) ∧ K (a.put o.dst v)

attribute [go_sem] quietR

def wpR (P : Program) (ops : Array Oper) (C : World → Prop) (Q : Act → Prop) : List Oper → Act → Prop
  | [], a => Q a
  | o :: rest, a => if Region.wanted o (yielded ops a.tmps) then quietR P o a C (wpR P ops C Q rest) else wpR P ops C Q rest (a.put o.dst undef)

theorem wpR_mono {Q Q' : Act → Prop} (h : ∀ a, Q a → Q' a) : ∀ {l : List Oper} {a : Act}, wpR P ops C Q l a → wpR P ops C Q' l a
  | [], _, hh => h _ hh
  | o :: l, a, hh => by
    unfold wpR at *
    split
    · rename_i hw; rw [if_pos hw] at hh; exact ⟨hh.choose, hh.choose_spec.1, wpR_mono h hh.choose_spec.2⟩
    · rename_i hw; rw [if_neg hw] at hh; exact wpR_mono h hh
theorem wpR_nil {Q : Act → Prop} {a : Act} (h : Q a) : wpR P ops C Q [] a := h
theorem wpR_step {Q : Act → Prop} {a : Act} {o : Oper} {rest : List Oper}
    (h : ∀ K : Act → Prop, (∀ a, wpR P ops C Q rest a → K a) → if Region.wanted o (yielded ops a.tmps) then quietR P o a C K else K (a.put o.dst undef)) : wpR P ops C Q (o :: rest) a := h _ (fun _ h => h)

/-- The value of a pointer to a new block. -/
def ptrTo (b : Nat) : Value := .pointer (some ⟨b, 0, none⟩)

/-- Operation i comes up: a quiet one, or (from m on) one that lays a new variable, wherever. -/
def rOp (P : Program) (ops : Array Oper) (C : World → Prop) (m i : Nat) (K : Act → Prop) (a : Act) : Prop :=
  match ops[i]? with
  | none => K a
  | some o => if m ≤ i then ∀ b, K (a.put o.dst (ptrTo b)) else if Region.wanted o (yielded ops a.tmps) then quietR P o a C K else K (a.put o.dst undef)

theorem rOp_mono {m i : Nat} {a : Act} {K K' : Act → Prop} (h : ∀ a, K a → K' a) (hh : rOp P ops C m i K a) : rOp P ops C m i K' a := by
  unfold rOp at *
  split
  · rename_i h0; rw [h0] at hh; exact h _ hh
  · rename_i o h0
    rw [h0] at hh
    simp only at hh
    split
    · rename_i hm; rw [if_pos hm] at hh; exact fun b => h _ (hh b)
    · rename_i hm
      rw [if_neg hm] at hh
      split
      · rename_i hw; rw [if_pos hw] at hh; exact ⟨hh.choose, hh.choose_spec.1, h _ hh.choose_spec.2⟩
      · rename_i hw; rw [if_neg hw] at hh; exact h _ hh

/-- In state a operation o leaves v. -/
def GivesR (P : Program) (ops : Array Oper) (C : World → Prop) (o : Oper) (v : Value) (a : Act) : Prop :=
  (Region.wanted o (yielded ops a.tmps) = true ∧ ∀ w, C w → o.quietAt P a (Cls w) w v) ∨ (Region.wanted o (yielded ops a.tmps) = false ∧ v = undef)

theorem GivesR.put {o : Oper} {v : Value} {a : Act} (h : GivesR P ops C o v a) (hs : ∀ cs b, o.op ≠ .select cs b) (d : Option Tmp) (u : Value)
    (hd : ∀ t, d = some t → t ∉ o.looksAt ops) : GivesR P ops C o v (a.put d u) := by
  have he : execOp (a.put d u).eval o = execOp a.eval o := execOp_put o hs a d u hd
  have hw : Region.wanted o (yielded ops (a.put d u).tmps) = Region.wanted o (yielded ops a.tmps) := wanted_put o a d u hd
  unfold GivesR Oper.quietAt at *
  rw [he, hw]
  exact h

theorem GivesR.rOp {m i : Nat} {o : Oper} {v : Value} {a : Act} (hi : ops[i]? = some o) (hm : i < m) (hy : GivesR P ops C o v a) {K : Act → Prop} (h : K (a.put o.dst v)) : rOp P ops C m i K a := by
  unfold Proofs.Ythlaejodajdioaa.rOp
  simp only [hi]
  rw [if_neg (by omega)]
  rcases hy with ⟨hw, hv⟩ | ⟨hw, rfl⟩
  · rw [if_pos hw]; exact ⟨v, hv, h⟩
  · rw [if_neg (by rw [hw]; exact Bool.false_ne_true)]; exact h

theorem givesR_of_rOp {m i : Nat} {o : Oper} {a : Act} {K : Act → Prop} (hi : ops[i]? = some o) (hm : i < m) (h : rOp P ops C m i K a) : ∃ v, GivesR P ops C o v a ∧ K (a.put o.dst v) := by
  unfold rOp at h
  simp only [hi] at h
  rw [if_neg (by omega)] at h
  by_cases hw : Region.wanted o (yielded ops a.tmps) = true
  · rw [if_pos hw] at h
    exact ⟨h.choose, .inl ⟨hw, h.choose_spec.1⟩, h.choose_spec.2⟩
  · rw [if_neg hw] at h
    exact ⟨undef, .inr ⟨by simpa using hw, rfl⟩, h⟩

theorem rOp_of_new {m i : Nat} {o : Oper} {a : Act} {K : Act → Prop} (hi : ops[i]? = some o) (hm : m ≤ i) (h : ∀ b, K (a.put o.dst (ptrTo b))) : rOp P ops C m i K a := by
  unfold rOp; simp only [hi]; rw [if_pos hm]; exact h
theorem new_of_rOp {m i : Nat} {o : Oper} {a : Act} {K : Act → Prop} (hi : ops[i]? = some o) (hm : m ≤ i) (h : rOp P ops C m i K a) (b : Nat) : K (a.put o.dst (ptrTo b)) := by
  unfold rOp at h; simp only [hi] at h; rw [if_pos hm] at h; exact h b

/-- Operation j before operation i, which is apart from it. -/
theorem rOp_put {m j : Nat} {oi oj : Oper} {v : Value} (hj : ops[j]? = some oj) (hap : oi.apart ops oj = true) (hsj : ∀ cs b, oj.op ≠ .select cs b) {K K' : Act → Prop} {a : Act}
    (hK : ∀ u, K ((a.put oj.dst u).put oi.dst v) → K' (a.put oj.dst u)) (h : rOp P ops C m j K (a.put oi.dst v)) : rOp P ops C m j K' a := by
  obtain ⟨h1, h2, h3⟩ := Oper.apart_spec hap
  rcases Nat.lt_or_ge j m with hm | hm
  · obtain ⟨u, hu, hn⟩ := givesR_of_rOp hj hm h
    have hu' : GivesR P ops C oj u a := by
      have he : execOp (a.put oi.dst v).eval oj = execOp a.eval oj := execOp_put oj hsj a _ v h1
      have hw : Region.wanted oj (yielded ops (a.put oi.dst v).tmps) = Region.wanted oj (yielded ops a.tmps) := wanted_put oj a _ v h1
      unfold GivesR Oper.quietAt at *
      rw [he, hw] at hu
      exact hu
    exact hu'.rOp hj hm (hK u (by rw [← Act.put_comm a v u h2]; exact hn))
  · exact rOp_of_new hj hm fun b => hK _ (by rw [← Act.put_comm a v _ h2]; exact new_of_rOp hj hm h b)

def wpHeadX (P : Program) (md : Region.Mode) (ops : Array Oper) (C : World → Prop) (m n : Nat) (L : Array Bool → Act → Prop) : Nat → Array Bool → Act → Prop
  | 0, done, a => L done a
  | f + 1, done, a => Region.ready md ops done ≠ [] ∧ ∀ i ∈ Region.ready md ops done, i < n ∧ rOp P ops C m i (wpHeadX P md ops C m n L f (done.setIfInBounds i true)) a

/-- Operation i of the head may be taken first: a quiet one always, a new variable once only new variables are left. S: what i leaves in the frame. -/
theorem wpHeadX_first {m n i : Nat} {oi : Oper} {S : Value → Prop} {L : Array Bool → Act → Prop} (hi : ops[i]? = some oi) (hsel : ∀ (j : Nat) (o : Oper) cs b, ops[j]? = some o → o.op ≠ .select cs b)
    (hs : Region.sinkB md ops n = true) (hc : Region.chainB md ops n = true) (hn : n < ops.size) (hin : i < n) (hdone : ∀ done a, L done a → ∀ j ∈ Region.ready md ops done, n ≤ j)
    (T : Act → Prop) (hT : ∀ a, T a → ∀ (j : Nat) (oj : Oper) (u : Value), ops[j]? = some oj → oi.apart ops oj = true → T (a.put oj.dst u))
    (htake : ∀ a K, T a → (∀ v, S v → K (a.put oi.dst v)) → rOp P ops C m i K a) (hne : ∃ v, S v) (hone : i < m → ∀ v v', S v → S v' → v = v') :
    ∀ (f : Nat) (done : Array Bool) (a : Act), HeadInv md ops n done →
      (∀ j oj, ops[j]? = some oj → j ≠ i → done.getD j true = false → (∀ e ∈ oj.after, Region.binds md e = true → e.on ≠ i) → oi.apart ops oj = true) →
      (m ≤ i → ∀ j, j < m → done.getD j true = true) →
      i ∈ Region.ready md ops done → T a → (∀ v, S v → wpHeadX P md ops C m n L f (done.setIfInBounds i true) (a.put oi.dst v)) → wpHeadX P md ops C m n L (f + 1) done a := by
  intro f
  induction f with
  | zero =>
    intro done a inv _ _ hr hy H
    have hun := (mem_ready.1 hr).1
    refine ⟨fun h => (by rw [h] at hr; cases hr), fun j hj => ?_⟩
    have hjn : j < n := Nat.lt_of_not_le fun h => tail_waits hs hc hn inv _ i rfl hin hun j h hj
    refine ⟨hjn, ?_⟩
    by_cases hji : j = i
    · subst hji; exact htake a _ hy H
    · obtain ⟨v, hv⟩ := hne
      have := hdone _ _ (H v hv) j (ready_mono hj hji)
      omega
  | succ f ih =>
    intro done a inv hfree hlast hr hy H
    have hun := (mem_ready.1 hr).1
    refine ⟨fun h => (by rw [h] at hr; cases hr), fun j hj => ?_⟩
    have hjn : j < n := Nat.lt_of_not_le fun h => tail_waits hs hc hn inv _ i rfl hin hun j h hj
    refine ⟨hjn, ?_⟩
    by_cases hji : j = i
    · subst hji; exact htake a _ hy H
    · obtain ⟨hjun, oj, hoj, hall⟩ := mem_ready.1 hj
      have hnot : ∀ e ∈ oj.after, Region.binds md e = true → e.on ≠ i := fun e he hb heq => by
        have h1 := hall e he hb
        rw [heq, getD_both hun] at h1
        cases h1
      have hap := hfree j oj hoj hji hjun hnot
      have hfree' : ∀ k ok, ops[k]? = some ok → k ≠ i → (done.setIfInBounds j true).getD k true = false → (∀ e ∈ ok.after, Region.binds md e = true → e.on ≠ i) → oi.apart ops ok = true := fun k ok hk hki hun' hno => by
        refine hfree k ok hk hki ?_ hno
        by_cases hjk : j = k
        · subst hjk; exact hjun
        · rw [getD_set_ne true hjk] at hun'; exact hun'
      have hlast' : m ≤ i → ∀ k, k < m → (done.setIfInBounds j true).getD k true = true := fun hmi k hk => by
        have := hlast hmi k hk
        by_cases hjk : j = k
        · subst hjk; rw [hjun] at this; cases this
        · rw [getD_set_ne true hjk]; exact this
      have go : ∀ u, (∀ v, S v → wpHeadX P md ops C m n L f ((done.setIfInBounds i true).setIfInBounds j true) ((a.put oj.dst u).put oi.dst v)) → wpHeadX P md ops C m n L (f + 1) (done.setIfInBounds j true) (a.put oj.dst u) := fun u hu =>
        ih (done.setIfInBounds j true) (a.put oj.dst u) (inv.set hj hjn) hfree' hlast' (ready_mono hr (Ne.symm hji)) (hT a hy j oj u hoj hap) (fun v hv => by rw [Array.setIfInBounds_comm _ _ hji]; exact hu v hv)
      have Hj := fun v hv => ((H v hv).2 j (ready_mono hj hji)).2
      rcases Nat.lt_or_ge i m with him | him
      · obtain ⟨v, hv⟩ := hne
        exact rOp_put hoj hap (fun cs b => hsel j oj cs b hoj) (fun u hu => go u fun v' hv' => by rw [hone him v' v hv' hv]; exact hu) (Hj v hv)
      · have hjm : m ≤ j := Nat.le_of_not_lt fun h => by have := hlast him j h; rw [hjun] at this; cases this
        obtain ⟨_, h2, _⟩ := Oper.apart_spec hap
        exact rOp_of_new hoj hjm fun b => go _ fun v hv => by rw [← Act.put_comm a v _ h2]; exact new_of_rOp hoj hjm (Hj v hv) b

theorem getD_up {done : Array Bool} {j : Nat} (h : done.getD j false = true) : done.getD j true = true := by
  rcases Nat.lt_or_ge j done.size with h' | h'
  · simpa [h'] using h
  · simp [Array.getElem?_eq_none h']
theorem set_upto {done : Array Bool} {k : Nat} (hk : k < done.size) (h : ∀ j, j < k → done.getD j false = true) (j : Nat) (hj : j < k + 1) : (done.setIfInBounds k true).getD j false = true := by
  by_cases hjk : k = j
  · subst hjk; simp [hk]
  · rw [getD_set_ne false hjk]; exact h j (by omega)

/-- The operations that lay new variables, each wherever. -/
def layAll : List Oper → Act → (Act → Prop) → Prop
  | [], a, K => K a
  | o :: l, a, K => ∀ b, layAll l (a.put o.dst (ptrTo b)) K

theorem wpHeadX_new {m n g : Nat} {Lq : Act → Prop} (hsel : Region.noSelect ops = true) (hs : Region.sinkB md ops n = true) (hc : Region.chainB md ops n = true) (hn : n < ops.size) :
    ∀ (l : List Oper) (k : Nat) (done : Array Bool) (a : Act), (∀ j, j < l.length → l[j]? = ops[k + j]?) → k + l.length = n → m ≤ k → (∀ j, j < k → done.getD j false = true) → HeadInv md ops n done →
    Region.lexHead md ops g l.length k done = true → layAll l a Lq → wpHeadX P md ops C m n (fun done' a' => Region.seqB md ops g n done' = true ∧ (∀ j, j < n → done'.getD j false = true) ∧ Lq a') l.length done a
  | [], k, done, a, _, hk, _, hall, _, hB, h => by
    obtain rfl : k = n := by simpa using hk
    exact ⟨by simpa [Region.lexHead] using hB, hall, h⟩
  | o :: l, k, done, a, hl, hk, hm, hlast, inv, hB, h => by
    have h0 : ops[k]? = some o := by simpa using (hl 0 (by simp)).symm
    simp only [List.length_cons, Region.lexHead, Bool.and_eq_true] at hB
    obtain ⟨⟨hr, hf⟩, hB'⟩ := hB
    have hkn : k < n := by simp only [List.length_cons] at hk; omega
    have hr' : k ∈ Region.ready md ops done := by simpa using hr
    exact wpHeadX_first (S := fun v => ∃ b, v = ptrTo b) h0 (Region.noSelect_spec hsel) hs hc hn hkn (fun done' a' hL => seqB_ready hL.1) (fun _ => True) (fun _ _ _ _ _ _ _ => trivial)
      (fun a K _ hK => rOp_of_new h0 hm fun b => hK _ ⟨b, rfl⟩) ⟨_, 0, rfl⟩ (fun h => absurd h (by omega)) l.length done a inv (Region.free_spec h0 hf) (fun _ j hj => getD_up (hlast j (by omega))) hr' trivial
      (fun v hv => by
        obtain ⟨b, rfl⟩ := hv
        refine wpHeadX_new hsel hs hc hn l (k + 1) _ _ (fun j hj => by have := hl (j + 1) (by simp; omega); simpa [Nat.add_assoc, Nat.add_comm 1 j] using this) (by simp only [List.length_cons] at hk; omega) (by omega) (fun j hj => set_upto (by rw [inv.size]; omega) hlast j hj) (inv.set hr' hkn) hB' (h b))

theorem wpHeadX_lex {m n g : Nat} {Lq : Act → Prop} (hsel : Region.noSelect ops = true) (hs : Region.sinkB md ops n = true) (hc : Region.chainB md ops n = true) (hn : n < ops.size) (r : List Oper) :
    ∀ (l : List Oper) (k : Nat) (done : Array Bool) (a : Act), (∀ j, j < l.length → l[j]? = ops[k + j]?) → (∀ j, j < r.length → r[j]? = ops[m + j]?) → k + l.length = m → m + r.length = n → (∀ j, j < k → done.getD j false = true) → HeadInv md ops n done →
    Region.lexHead md ops g (l.length + r.length) k done = true → wpR P ops C (fun a' => layAll r a' Lq) l a →
    wpHeadX P md ops C m n (fun done' a' => Region.seqB md ops g n done' = true ∧ (∀ j, j < n → done'.getD j false = true) ∧ Lq a') (l.length + r.length) done a
  | [], k, done, a, _, hr0, hk, hrn, hlast, inv, hB, h => by
    obtain rfl : k = m := by simpa using hk
    simp only [List.length_nil, Nat.zero_add] at hB ⊢
    exact wpHeadX_new hsel hs hc hn r k done a hr0 hrn (Nat.le_refl _) hlast inv hB h
  | o :: l, k, done, a, hl, hr0, hk, hrn, hlast, inv, hB, h => by
    have h0 : ops[k]? = some o := by simpa using (hl 0 (by simp)).symm
    simp only [List.length_cons] at hk
    rw [List.length_cons, show l.length + 1 + r.length = (l.length + r.length) + 1 by omega] at hB ⊢
    simp only [Region.lexHead, Bool.and_eq_true] at hB
    obtain ⟨⟨hr, hf⟩, hB'⟩ := hB
    have hkm : k < m := by omega
    have hr' : k ∈ Region.ready md ops done := by simpa using hr
    have hst : rOp P ops C m k (wpR P ops C (fun a' => layAll r a' Lq) l) a := by
      unfold rOp; simp only [h0]; rw [if_neg (by omega)]; exact h
    obtain ⟨v, hy, hK⟩ := givesR_of_rOp h0 hkm hst
    have hsk := Region.noSelect_spec hsel
    exact wpHeadX_first (S := fun u => u = v) h0 hsk hs hc hn (by omega) (fun done' a' hL => seqB_ready hL.1) (GivesR P ops C o v)
      (fun a ha j oj u hj hap => ha.put (fun cs b => hsk k o cs b h0) _ _ (Oper.apart_spec hap).2.2) (fun a K ha hK => ha.rOp h0 hkm (hK v rfl)) ⟨v, rfl⟩ (fun _ _ _ e e' => e.trans e'.symm)
      (l.length + r.length) done a inv (Region.free_spec h0 hf) (fun h => absurd h (by omega)) hr' hy
      (fun u hu => by
        subst hu
        refine wpHeadX_lex hsel hs hc hn r l (k + 1) _ _ (fun j hj => by have := hl (j + 1) (by simp; omega); simpa [Nat.add_assoc, Nat.add_comm 1 j] using this) hr0 (by omega) hrn (fun j hj => set_upto (by rw [inv.size]; omega) hlast j hj) (inv.set hr' (by omega)) hB' hK)

/-! ### The worlds -/

/-- What is known while the head is under way: W: the world at the region's head; news i: what operation i lays; N: the frame's size. -/
structure InvX (W : World) (ops : Array Oper) (m n N : Nat) (news : Nat → Obj) (done : Array Bool) (a : Act) (w : World) : Prop where
  cls : Cls W w
  size : a.tmps.size = N
  at_ : ∀ i o d, m ≤ i → i < n → ops[i]? = some o → o.dst = some d → done.getD i false = true → ∃ b, a.tmps[d]? = some (ptrTo b) ∧ W.heap.size ≤ b ∧ b < w.heap.size ∧ w.heap[b]? = some (news i)
  ne : ∀ i o d i' o' d' b, m ≤ i → i < n → ops[i]? = some o → o.dst = some d → done.getD i false = true → m ≤ i' → i' < n → ops[i']? = some o' → o'.dst = some d' → done.getD i' false = true → i ≠ i' →
    a.tmps[d]? = some (ptrTo b) → a.tmps[d']? ≠ some (ptrTo b)

/-- The slots of the new variables: within the frame, and written by nothing else in the head. -/
def newsB (ops : Array Oper) (m n N : Nat) : Bool :=
  (List.range n).all fun i => decide (i < m) || match ops[i]? with
    | some o => o.guard.isNone && (match o.dst with | some d => decide (d < N) && (List.range n).all fun j => decide (j = i) || (match ops[j]? with | some oj => oj.dst != some d | none => true) | none => false)
    | none => true

theorem newsB_spec {m n N : Nat} (h : newsB ops m n N = true) {i : Nat} {o : Oper} (hm : m ≤ i) (hin : i < n) (hi : ops[i]? = some o) :
    o.guard = none ∧ ∃ d, o.dst = some d ∧ d < N ∧ ∀ j oj, j < n → j ≠ i → ops[j]? = some oj → oj.dst ≠ some d := by
  have h1 := List.all_eq_true.1 h i (List.mem_range.2 hin)
  simp only [Bool.or_eq_true, decide_eq_true_eq] at h1
  rcases h1 with h1 | h1
  · omega
  · rw [hi] at h1
    simp only [Bool.and_eq_true] at h1
    obtain ⟨hg, hd⟩ := h1
    refine ⟨by simpa using hg, ?_⟩
    cases hdst : o.dst with
    | none => rw [hdst] at hd; simp at hd
    | some d =>
      rw [hdst] at hd
      simp only [Bool.and_eq_true, decide_eq_true_eq] at hd
      refine ⟨d, rfl, hd.1, fun j oj hj hji hoj => ?_⟩
      have h2 := List.all_eq_true.1 hd.2 j (List.mem_range.2 hj)
      simp only [Bool.or_eq_true, decide_eq_true_eq] at h2
      rcases h2 with h2 | h2
      · exact absurd h2 hji
      · rw [hoj] at h2; simpa using h2

theorem put_other {a : Act} {d : Nat} {x : Option Tmp} {v : Value} (h : x ≠ some d) : (a.put x v).tmps[d]? = a.tmps[d]? := by
  cases x with
  | none => rfl
  | some t =>
    show (a.tmps.setIfInBounds t v)[d]? = _
    rw [Array.getElem?_setIfInBounds_ne (by intro e; exact h (by rw [e]))]
theorem put_same {a : Act} {d : Nat} {v : Value} (h : d < a.tmps.size) : (a.put (some d) v).tmps[d]? = some v := by
  show (a.tmps.setIfInBounds d v)[d]? = _
  simp [h]
theorem put_size {a : Act} {x : Option Tmp} {v : Value} : (a.put x v).tmps.size = a.tmps.size := by
  cases x with
  | none => rfl
  | some t => show (a.tmps.setIfInBounds t v).size = _; simp
theorem set_done {done : Array Bool} {i j : Nat} (h : (done.setIfInBounds i true).getD j false = true) (hij : i ≠ j) : done.getD j false = true := by rwa [getD_set_ne false hij] at h

variable {W : World} {m n N : Nat} {news : Nat → Obj} {done : Array Bool} {a : Act} {w : World}

theorem InvX.quiet (inv : InvX W ops m n N news done a w) (hB : newsB ops m n N = true) {i : Nat} {o : Oper} (hi : ops[i]? = some o) (him : i < m) (hmn : m ≤ n) {w' : World} (hw : Cls w w') (v : Value) :
    InvX W ops m n N news (done.setIfInBounds i true) (a.put o.dst v) w' := by
  have keep : ∀ k ok d, m ≤ k → k < n → ops[k]? = some ok → ok.dst = some d → (a.put o.dst v).tmps[d]? = a.tmps[d]? := fun k ok d hk hkn hok hd => by
    obtain ⟨_, d', hd', _, h2⟩ := newsB_spec hB hk hkn hok
    obtain rfl : d = d' := by rw [hd] at hd'; simpa using hd'
    exact put_other (h2 i o (by omega) (by omega) hi)
  refine ⟨?_, put_size.trans inv.size, fun k ok d hk hkn hok hd hdn => ?_, fun k ok d k' ok' d' b hk hkn hok hd hdn hk' hkn' hok' hd' hdn' hne h => ?_⟩
  · obtain ⟨x, rfl⟩ := inv.cls; exact Cls.step x hw
  · obtain ⟨b, h1, h2, h3, h4⟩ := inv.at_ k ok d hk hkn hok hd (set_done hdn (by omega))
    exact ⟨b, by rw [keep k ok d hk hkn hok hd]; exact h1, h2, by have := hw.below.size; omega, by rw [hw.below.block b h3]; exact h4⟩
  · rw [keep k ok d hk hkn hok hd] at h
    rw [keep k' ok' d' hk' hkn' hok' hd']
    exact inv.ne k ok d k' ok' d' b hk hkn hok hd (set_done hdn (by omega)) hk' hkn' hok' hd' (set_done hdn' (by omega)) hne h

theorem InvX.new (inv : InvX W ops m n N news done a w) (hB : newsB ops m n N = true) {i : Nat} {o : Oper} (hi : ops[i]? = some o) (hm : m ≤ i) (hin : i < n) :
    InvX W ops m n N news (done.setIfInBounds i true) (a.put o.dst (ptrTo w.heap.size)) (w.alloc (news i)) := by
  obtain ⟨_, d0, hd0, hN, hone⟩ := newsB_spec hB hm hin hi
  have keep : ∀ k ok d, m ≤ k → k < n → ops[k]? = some ok → ok.dst = some d → k ≠ i → (a.put o.dst (ptrTo w.heap.size)).tmps[d]? = a.tmps[d]? := fun k ok d hk hkn hok hd hki => by
    obtain ⟨_, d', hd', _, h2⟩ := newsB_spec hB hk hkn hok
    obtain rfl : d = d' := by rw [hd] at hd'; simpa using hd'
    exact put_other (h2 i o hin (Ne.symm hki) hi)
  have same : ∀ ok d, ops[i]? = some ok → ok.dst = some d → (a.put o.dst (ptrTo w.heap.size)).tmps[d]? = some (ptrTo w.heap.size) := fun ok d hok hd => by
    obtain rfl : o = ok := by rw [hi] at hok; simpa using hok
    obtain rfl : d0 = d := by rw [hd0] at hd; simpa using hd
    rw [hd0]; exact put_same (by rw [inv.size]; exact hN)
  have inj : ∀ {b b' : Nat}, some (ptrTo b) = some (ptrTo b') → b = b' := fun h => by simpa [ptrTo] using h
  refine ⟨?_, put_size.trans inv.size, fun k ok d hk hkn hok hd hdn => ?_, fun k ok d k' ok' d' b hk hkn hok hd hdn hk' hkn' hok' hd' hdn' hne h => ?_⟩
  · obtain ⟨x, rfl⟩ := inv.cls; exact Cls.of (x.below.alloc x.size _)
  · by_cases hki : k = i
    · subst hki
      have hs := inv.cls.below.size
      exact ⟨_, same ok d hok hd, hs, by simp, by show (w.heap.push _)[w.heap.size]? = _; simp⟩
    · obtain ⟨b, h1, h2, h3, h4⟩ := inv.at_ k ok d hk hkn hok hd (set_done hdn (Ne.symm hki))
      exact ⟨b, by rw [keep k ok d hk hkn hok hd hki]; exact h1, h2, by simp; omega, by rw [Below.heap_alloc _ _ _ h3]; exact h4⟩
  · by_cases hki : k = i
    · subst hki
      rw [same ok d hok hd] at h
      obtain rfl := inj h
      obtain ⟨b, h1, _, h3, _⟩ := inv.at_ k' ok' d' hk' hkn' hok' hd' (set_done hdn' hne)
      rw [keep k' ok' d' hk' hkn' hok' hd' (Ne.symm hne), h1]
      intro e
      have := inj e
      omega
    · rw [keep k ok d hk hkn hok hd hki] at h
      by_cases hki' : k' = i
      · subst hki'
        rw [same ok' d' hok' hd']
        intro e
        obtain rfl := inj e
        obtain ⟨b, h1, _, h3, _⟩ := inv.at_ k ok d hk hkn hok hd (set_done hdn (Ne.symm hki))
        rw [h1] at h
        have := inj h
        omega
      · rw [keep k' ok' d' hk' hkn' hok' hd' hki']
        exact inv.ne k ok d k' ok' d' b hk hkn hok hd (set_done hdn (Ne.symm hki)) hk' hkn' hok' hd' (set_done hdn' (Ne.symm hki')) hne h

theorem wpAny_of_wpHeadX {g : Nat} {L : Array Bool → Act → Prop} {Q : Exit → Act → World → Prop} (hB : newsB ops m n N = true) (hmn : m ≤ n)
    (hA : ∀ i o, m ≤ i → i < n → ops[i]? = some o → ∀ (a : Act) (w : World), (execOp a.eval o).run P w = .ok (.value (ptrTo w.heap.size)) (w.alloc (news i)))
    (hL : ∀ done a w, InvX W ops m n N news done a w → L done a → wpAny P md ops Q g done a w) :
    ∀ (f : Nat) (done : Array Bool) (a : Act) (w : World), InvX W ops m n N news done a w → wpHeadX P md ops (Cls W) m n L f done a → wpAny P md ops Q (f + g) done a w
  | 0, done, a, w, inv, h => by rw [Nat.zero_add]; exact hL _ _ _ inv h
  | f + 1, done, a, w, inv, h => by
    rw [show f + 1 + g = (f + g) + 1 by omega]
    refine ⟨fun h0 => absurd h0 h.1, fun i hi => ?_⟩
    obtain ⟨hin, hr⟩ := h.2 i hi
    have IH := fun a' w' inv' h' => wpAny_of_wpHeadX hB hmn hA hL f (done.setIfInBounds i true) a' w' inv' h'
    unfold wpOp
    split
    · rename_i h0
      have := (mem_ready.1 hi).2
      rw [h0] at this
      simp at this
    · rename_i o h0
      rcases Nat.lt_or_ge i m with him | him
      · obtain ⟨v, hy, hK⟩ := givesR_of_rOp h0 him hr
        rcases hy with ⟨hw, hv⟩ | ⟨hw, rfl⟩
        · rw [if_pos hw]
          refine .inl ?_
          have h3 := hv w inv.cls
          unfold Oper.quietAt at h3
          unfold Oper.wp
          generalize (execOp a.eval o).run P w = r at *
          cases r with
          | ok x w' =>
            cases x <;> simp only [Oper.quietUpon] at h3 <;> simp only [Oper.upon]
            case value u =>
              obtain ⟨e1, e2⟩ := h3
              rw [e1, e2]
              exact IH _ _ (inv.quiet hB h0 him hmn (Cls.of (Below.refl _ _)) v) hK
            case skip =>
              obtain ⟨e1, e2⟩ := h3
              rw [e1, ← e2]
              exact IH _ _ (inv.quiet hB h0 him hmn (Cls.of (Below.refl _ _)) v) hK
            case enter f args =>
              obtain ⟨e1, hc⟩ := h3
              rw [e1]
              exact hc.mono fun e w'' ⟨he, hw''⟩ => by subst he; exact IH _ _ (inv.quiet hB h0 him hmn hw'' v) hK
          | halt x w' => simp only [Oper.quietUpon] at h3
        · rw [if_neg (by rw [hw]; exact Bool.false_ne_true)]
          exact IH _ _ (inv.quiet hB h0 him hmn (Cls.of (Below.refl _ _)) undef) hK
      · obtain ⟨hg, _⟩ := newsB_spec hB him hin h0
        have hw : Region.wanted o (yielded ops a.tmps) = true := by unfold Region.wanted; rw [hg]
        rw [if_pos hw]
        refine .inl ?_
        unfold Oper.wp
        rw [hA i o him hin h0 a w]
        exact IH _ _ (inv.new hB h0 him hin) (new_of_rOp h0 him hr _)

/-- What is known of the new variables behind the head: the frame's slot says which block, the block is new and holds what was laid. -/
structure Laid (W : World) (ops : Array Oper) (m n N : Nat) (news : Nat → Obj) (a : Act) (x : Ext W) : Prop where
  size : a.tmps.size = N
  at_ : ∀ i o d b, m ≤ i → i < n → ops[i]? = some o → o.dst = some d → a.tmps[d]? = some (ptrTo b) → W.heap.size ≤ b ∧ b < x.val.heap.size ∧ x.val.heap[b]? = some (news i)
  ne : ∀ i o d i' o' d' b b', m ≤ i → i < n → ops[i]? = some o → o.dst = some d → m ≤ i' → i' < n → ops[i']? = some o' → o'.dst = some d' → i ≠ i' → a.tmps[d]? = some (ptrTo b) → a.tmps[d']? = some (ptrTo b') → b ≠ b'

theorem wp_region_new {id : Nat} {Q : Exit → Act → World → Prop} {a : Act} {w : World} {l : List Oper} (m n : Nat) (news : Nat → Obj) (hm : P.follows .mixedOrders = true)
    (hB : (Region.lexTailB .any l.toArray n && newsB l.toArray m n a.tmps.size && decide (m ≤ n)) = true)
    (hA : ∀ i o, m ≤ i → i < n → l.toArray[i]? = some o → ∀ (a : Act) (w : World), (execOp a.eval o).run P w = .ok (.value (ptrTo w.heap.size)) (w.alloc (news i)))
    (h : wpR P l.toArray (fun w' => ∃ x : Ext w, w' = x.val) (fun a' => layAll ((l.take n).drop m) a' (fun a'' => ∀ x : Ext w, Laid w l.toArray m n a.tmps.size news a'' x → wpList P l.toArray Q (l.drop n) a'' x.val)) (l.take m) a) :
    (Code.region id l.toArray true).wp P Q a w := by
  simp only [Bool.and_eq_true, decide_eq_true_eq] at hB
  obtain ⟨⟨hB, hD⟩, hmn⟩ := hB
  simp only [Region.lexTailB, Bool.and_eq_true, decide_eq_true_eq] at hB
  obtain ⟨⟨⟨⟨hsel, hn⟩, hs⟩, hc⟩, hlex⟩ := hB
  have hn' : n < l.length := by simpa using hn
  have htl : (l.take m).length = m := by simp; omega
  have hrl : ((l.take n).drop m).length = n - m := by simp; omega
  have hdl : (l.drop n).length = l.toArray.size - n := by simp
  have inv0 : HeadInv .any l.toArray n (Array.replicate l.toArray.size false) :=
    ⟨by simp, fun j oj _ hl => (by rw [getD_replicate_false] at hl; cases hl), fun t _ ht => getD_in (by simpa using ht) (getD_replicate_false _ _)⟩
  have H := wpHeadX_lex (P := P) (md := .any) (C := Cls w) (m := m) (n := n) (g := l.toArray.size - n) hsel hs hc hn ((l.take n).drop m) (l.take m) 0 _ a
    (fun j hj => by
      have hj' : j < m := by rw [htl] at hj; exact hj
      simp [hj'])
    (fun j hj => by
      have hj' : j < n - m := by rw [hrl] at hj; exact hj
      simp [List.getElem?_drop, show m + j < n by omega])
    (by simpa using htl) (by omega) (fun j hj => by omega) inv0 (by rw [htl, hrl, show m + (n - m) = n by omega]; exact hlex) h
  rw [htl, hrl, show m + (n - m) = n by omega] at H
  refine wp_region_any hm ?_
  have inv1 : InvX w l.toArray m n a.tmps.size news (Array.replicate l.toArray.size false) a { w with drawn := w.drawn + 1 } :=
    ⟨Cls.start w, rfl, fun i o d _ _ _ _ hdn => (by rw [getD_replicate_false] at hdn; cases hdn), fun i o d _ _ _ _ _ _ _ _ hdn => (by rw [getD_replicate_false] at hdn; cases hdn)⟩
  have := wpAny_of_wpHeadX (Q := Q) (g := l.toArray.size - n) hD hmn hA (fun done a' w' inv hL => by
    obtain ⟨hq, hall, hL⟩ := hL
    obtain ⟨x, rfl⟩ := inv.cls
    have hlaid : Laid w l.toArray m n a.tmps.size news a' x := ⟨inv.size, fun i o d b hi hin ho hd hb => by
        obtain ⟨b', h1, h2, h3, h4⟩ := inv.at_ i o d hi hin ho hd (hall i hin)
        rw [hb] at h1
        obtain rfl : b = b' := by simpa [ptrTo] using h1
        exact ⟨h2, h3, h4⟩, fun i o d i' o' d' b b' hi hin ho hd hi' hin' ho' hd' hne hb hb' e => by
        subst e
        exact inv.ne i o d i' o' d' b hi hin ho hd (hall i hin) hi' hin' ho' hd' (hall i' hin') hne hb hb'⟩
    have := wpAny_of_seq (md := .any) (Q' := Q) (l.drop n) n done a' x.val (fun j => by simp [List.getElem?_drop]) (by rw [hdl]; exact hq) (hL x hlaid)
    rwa [hdl] at this) _ _ _ _ inv1 H
  rw [show n + (l.toArray.size - n) = l.toArray.size by omega] at this
  exact this

theorem put_get {a : Act} {d N b : Nat} (h : (a.put (some d) (ptrTo b)).tmps.size = N) (hd : d < N) : (a.put (some d) (ptrTo b)).tmps[d]? = some (ptrTo b) :=
  put_same (by rw [← put_size (x := some d) (v := ptrTo b), h]; exact hd)

/-- One new variable beside the quiet operations. -/
theorem wp_region_new1 {id : Nat} {Q : Exit → Act → World → Prop} {a : Act} {w : World} {l : List Oper} (m : Nat) (obj : Obj) (o1 : Oper) (d1 : Nat) (hm : P.follows .mixedOrders = true)
    (hB : (Region.lexTailB .any l.toArray (m + 1) && newsB l.toArray m (m + 1) a.tmps.size && decide (m ≤ m + 1)) = true) (h1 : l[m]? = some o1) (hd1 : o1.dst = some d1)
    (hA : ∀ (a : Act) (w : World), (execOp a.eval o1).run P w = .ok (.value (.pointer (some ⟨w.heap.size, 0, none⟩))) (w.alloc obj))
    (h : wpR P l.toArray (fun w' => ∃ x : Ext w, w' = x.val) (fun a' => ∀ (b : Nat) (x : Ext w), w.heap.size ≤ b → b < x.val.heap.size → x.val.heap[b]? = some obj →
      wpList P l.toArray Q (l.drop (m + 1)) (a'.put (some d1) (.pointer (some ⟨b, 0, none⟩))) x.val) (l.take m) a) : (Code.region id l.toArray true).wp P Q a w := by
  have hmid : (l.take (m + 1)).drop m = [o1] := by
    obtain ⟨hlt, he⟩ := List.getElem?_eq_some_iff.1 h1
    rw [List.take_succ_eq_append_getElem hlt, List.drop_append_of_le_length (by simp; omega)]
    simp [he]
  have hN : d1 < a.tmps.size := by
    have h2 := hB
    simp only [Bool.and_eq_true] at h2
    obtain ⟨_, d', hd', hlt, _⟩ := newsB_spec (i := m) h2.1.2 (Nat.le_refl _) (by omega) (by simpa using h1)
    rw [hd1] at hd'
    obtain rfl : d1 = d' := by simpa using hd'
    exact hlt
  refine wp_region_new m (m + 1) (fun _ => obj) hm hB (fun i o hi hin ho a w => ?_) ?_
  · obtain rfl : i = m := by omega
    obtain rfl : o1 = o := by simpa [h1] using ho
    exact hA a w
  · rw [hmid]
    refine wpR_mono (fun a' ha' => ?_) h
    intro b
    rw [hd1]
    intro x hx
    have hg := put_get hx.size hN
    obtain ⟨f1, f2, f3⟩ := hx.at_ m o1 d1 b (Nat.le_refl _) (by omega) (by simpa using h1) hd1 hg
    exact ha' b x f1 f2 f3

/-- Two new variables beside the quiet operations. -/
theorem wp_region_new2 {id : Nat} {Q : Exit → Act → World → Prop} {a : Act} {w : World} {l : List Oper} (m : Nat) (obj obj' : Obj) (o1 o2 : Oper) (d1 d2 : Nat) (hm : P.follows .mixedOrders = true)
    (hB : (Region.lexTailB .any l.toArray (m + 2) && newsB l.toArray m (m + 2) a.tmps.size && decide (m ≤ m + 2)) = true) (h1 : l[m]? = some o1) (hd1 : o1.dst = some d1) (h2 : l[m + 1]? = some o2) (hd2 : o2.dst = some d2)
    (hA : ∀ (a : Act) (w : World), (execOp a.eval o1).run P w = .ok (.value (.pointer (some ⟨w.heap.size, 0, none⟩))) (w.alloc obj))
    (hA' : ∀ (a : Act) (w : World), (execOp a.eval o2).run P w = .ok (.value (.pointer (some ⟨w.heap.size, 0, none⟩))) (w.alloc obj'))
    (h : wpR P l.toArray (fun w' => ∃ x : Ext w, w' = x.val) (fun a' => ∀ (b c : Nat) (x : Ext w), w.heap.size ≤ b → b < x.val.heap.size → x.val.heap[b]? = some obj → w.heap.size ≤ c → c < x.val.heap.size → x.val.heap[c]? = some obj' → b ≠ c →
      wpList P l.toArray Q (l.drop (m + 2)) ((a'.put (some d1) (.pointer (some ⟨b, 0, none⟩))).put (some d2) (.pointer (some ⟨c, 0, none⟩))) x.val) (l.take m) a) : (Code.region id l.toArray true).wp P Q a w := by
  have hmid : (l.take (m + 2)).drop m = [o1, o2] := by
    obtain ⟨hlt, he⟩ := List.getElem?_eq_some_iff.1 h1
    obtain ⟨hlt2, he2⟩ := List.getElem?_eq_some_iff.1 h2
    rw [List.take_succ_eq_append_getElem hlt2, List.take_succ_eq_append_getElem hlt, List.append_assoc, List.drop_append_of_le_length (by simp; omega)]
    simp [he, he2]
  have hB2 := hB
  simp only [Bool.and_eq_true] at hB2
  have hN1 : d1 < a.tmps.size ∧ d1 ≠ d2 := by
    obtain ⟨_, d', hd', hlt, hone⟩ := newsB_spec (i := m) hB2.1.2 (Nat.le_refl _) (by omega) (by simpa using h1)
    rw [hd1] at hd'
    obtain rfl : d1 = d' := by simpa using hd'
    exact ⟨hlt, fun e => hone (m + 1) o2 (by omega) (by omega) (by simpa using h2) (by rw [hd2, e])⟩
  have hN2 : d2 < a.tmps.size := by
    obtain ⟨_, d', hd', hlt, _⟩ := newsB_spec (i := m + 1) hB2.1.2 (by omega) (by omega) (by simpa using h2)
    rw [hd2] at hd'
    obtain rfl : d2 = d' := by simpa using hd'
    exact hlt
  refine wp_region_new m (m + 2) (fun i => if i = m then obj else obj') hm hB (fun i o hi hin ho a w => ?_) ?_
  · by_cases him : i = m
    · subst him
      obtain rfl : o1 = o := by simpa [h1] using ho
      simp only [if_true]; exact hA a w
    · obtain rfl : i = m + 1 := by omega
      obtain rfl : o2 = o := by simpa [h2] using ho
      simp only [show ¬ (m + 1 = m) by omega, if_false]; exact hA' a w
  · rw [hmid]
    refine wpR_mono (fun a' ha' => ?_) h
    intro b c
    rw [hd1, hd2]
    intro x hx
    have hg2 := put_get hx.size hN2
    have hg1 : ((a'.put (some d1) (ptrTo b)).put (some d2) (ptrTo c)).tmps[d1]? = some (ptrTo b) := by
      rw [put_other (fun e => hN1.2 (by simpa using e.symm))]
      exact put_get (put_size.symm.trans hx.size) hN1.1
    obtain ⟨f1, f2, f3⟩ := hx.at_ m o1 d1 b (Nat.le_refl _) (by omega) (by simpa using h1) hd1 hg1
    obtain ⟨g1, g2, g3⟩ := hx.at_ (m + 1) o2 d2 c (by omega) (by omega) (by simpa using h2) hd2 hg2
    simp only [if_true] at f3
    simp only [show ¬ (m + 1 = m) by omega, if_false] at g3
    exact ha' b c x f1 f2 f3 g1 g2 g3 (hx.ne m o1 d1 (m + 1) o2 d2 b c (Nat.le_refl _) (by omega) (by simpa using h1) hd1 (by omega) (by omega) (by simpa using h2) hd2 (by omega) hg1 hg2)

theorem cells_of {w : World} {b : Nat} {cs : Array Value} {t : TypeId} (h : w.heap[b]? = some (.cells cs t)) (i : Nat) : w.cell? ⟨b, i, none⟩ = cs[i]? := by simp [World.cell?, h]
theorem free_of {w : World} {b : Nat} {cs : Array Value} {t : TypeId} (h : w.heap[b]? = some (.cells cs t)) (i : Nat) : w.frozen? ⟨b, i, none⟩ = false := by simp [World.frozen?, h]
end
end Go.Proofs.Ythlaejodajdioaa
