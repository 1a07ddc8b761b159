/-
  Expressions of a type, as the tape makes them, and that their values are of it.
-/
import Derived.Test.YtkmpaonakhfcjaaDoorMade3
import Derived.Test.YtkmpaonakhfcjaaDoorConst
set_option linter.unusedVariables false
namespace Go.Proofs.YtkmpaonakhfcjaaDoor
open Go Go.RowKit Go.Deep
/-- The operations whose operands are all of one type x, and give type k. -/
def Sig (k op x : Int) (n : Nat) : Prop :=
  (op = 27 ∧ x = k ∧ n = 2) ∨ ((6 ≤ op ∧ op ≤ 10) ∧ k = 1 ∧ x = 1 ∧ n = 2) ∨ (op = 11 ∧ k = 1 ∧ x = 1 ∧ n = 1) ∨ (op = 13 ∧ k = 1 ∧ x = 3 ∧ n = 1) ∨ (op = 12 ∧ k = 3 ∧ x = 3 ∧ n = 2) ∨
  ((op = 22 ∨ op = 23) ∧ k = 2 ∧ x = 2 ∧ n = 2) ∨ ((op = 24 ∨ op = 25) ∧ k = 2 ∧ x = 2 ∧ n = 1) ∨ (op = 21 ∧ k = 2 ∧ IsTy x ∧ n = 1) ∨ (op = 28 ∧ k = 2 ∧ IsTy x ∧ 2 ≤ n ∧ n ≤ 4) ∨ ((14 ≤ op ∧ op ≤ 20) ∧ k = 2 ∧ IsTy x ∧ n = 2)
/-- An expression without fields but its operation and its Kids. -/
def Ex.node (op : Int) (l : List Ex) : Ex := .mk op 0 0 ⟨#[]⟩ 0 l
inductive Made (ty : List Int) : Nat → Int → Ex → Prop
  | col {d : Nat} (k : Int) (c : Nat) (hc : c < ty.length) (h : ty.getD c 0 = k) : Made ty d k (.mk 5 0 0 ⟨#[]⟩ c [])
  | const {d : Nat} (k : Int) (v : Vl) (h : okV k v) : Made ty d k (.mk (cOp v.k) (cTy v.k k) (cNum v.k v.n) (cTxt v.k v.s) 0 [])
  | case {d : Nat} (k : Int) (c a b : Ex) (hc : Made ty d 2 c) (ha : Made ty d k a) (hb : Made ty d k b) : Made ty (d + 1) k (Ex.node 26 [c, a, b])
  | node {d : Nat} (k op x : Int) (l : List Ex) (h : Sig k op x l.length) (hl : ∀ e ∈ l, Made ty d x e) : Made ty (d + 1) k (Ex.node op l)
theorem okV_tv (t : Int) : okV 2 (tvV t) := by
  unfold tvV tvK tvN okV
  by_cases h0 : t = 0
  · subst h0; simp [vB]
  · by_cases h1 : t = 1
    · subst h1; simp [vB]
    · simp [h0, h1, vB]
theorem okV_b2i (b : Bool) : okV 2 ⟨2, b2i b, ⟨#[]⟩⟩ := by
  cases b <;> simp [okV, b2i, vB]
theorem okV_ar (op : Int) (a b : Vl) (k : Int) (hk : k = if op = 12 then 3 else 1) : okV k (arV3 op a b) := by
  refine ⟨?_, ar_valid _ _ _ _ _ _ _⟩
  show arK _ _ _ _ _ _ _ = 0 ∨ arK _ _ _ _ _ _ _ = k
  unfold arK
  subst hk
  split
  · exact .inr rfl
  · exact .inl rfl
theorem okV_len {a : Vl} (h : okV 3 a) : okV 1 (unV 13 a) := by
  unfold unV
  rw [if_neg (by decide), if_pos rfl]
  split
  · have := okV_size h
    refine ⟨.inr rfl, ?_⟩
    simp [vB]
    omega
  · exact okV_z _
theorem okV_in (v : Vl) : ∀ (l : List Vl) (acc : Vl), okV 2 acc → okV 2 (inV v l acc)
  | [], acc, h => h
  | x :: r, acc, h => okV_in v r _ (okV_tv _)
theorem okV_bi {k op x : Int} {a b : Vl} (hs : Sig k op x 2) (h28 : op ≠ 28) (ha : okV x a) (hb : okV x b) : okV k (biV op a b) := by
  unfold biV
  unfold Sig at hs
  rcases hs with ⟨rfl, rfl, _⟩ | ⟨⟨h1, h2⟩, rfl, rfl, _⟩ | ⟨_, _, _, h⟩ | ⟨_, _, _, h⟩ | ⟨rfl, rfl, rfl, _⟩ | ⟨h | h, rfl, rfl, _⟩ | ⟨_, _, _, h⟩ | ⟨_, _, _, h⟩ | ⟨h, _⟩ | ⟨⟨h1, h2⟩, rfl, hx, _⟩
  · simp only [show ¬ (27 : Int) = 14 by decide, show ¬ (27 : Int) = 15 by decide, show ¬ (27 : Int) = 16 by decide, show ¬ (27 : Int) = 17 by decide, show ¬ (27 : Int) = 18 by decide, show ¬ (27 : Int) = 19 by decide, show ¬ (27 : Int) = 20 by decide, show ¬ (27 : Int) = 22 by decide, show ¬ (27 : Int) = 23 by decide, if_false, if_true]
    split
    · exact hb
    · exact ha
  · repeat rw [if_neg (by omega)]
    exact okV_ar _ _ _ _ (by rw [if_neg (by omega)])
  · omega
  · omega
  · repeat rw [if_neg (by decide)]
    exact okV_ar _ _ _ _ rfl
  · subst h
    simp only [show ¬ (22 : Int) = 14 by decide, show ¬ (22 : Int) = 15 by decide, show ¬ (22 : Int) = 16 by decide, show ¬ (22 : Int) = 17 by decide, show ¬ (22 : Int) = 18 by decide, show ¬ (22 : Int) = 19 by decide, show ¬ (22 : Int) = 20 by decide, if_false, if_true]
    exact okV_tv _
  · subst h
    simp only [show ¬ (23 : Int) = 14 by decide, show ¬ (23 : Int) = 15 by decide, show ¬ (23 : Int) = 16 by decide, show ¬ (23 : Int) = 17 by decide, show ¬ (23 : Int) = 18 by decide, show ¬ (23 : Int) = 19 by decide, show ¬ (23 : Int) = 20 by decide, show ¬ (23 : Int) = 22 by decide, if_false, if_true]
    exact okV_tv _
  · omega
  · omega
  · exact absurd h h28
  · have : op = 14 ∨ op = 15 ∨ op = 16 ∨ op = 17 ∨ op = 18 ∨ op = 19 ∨ op = 20 := by omega
    rcases this with rfl | rfl | rfl | rfl | rfl | rfl | rfl
    all_goals
      simp
      first | exact okV_tv _ | exact okV_b2i _
theorem okV_un {k op x : Int} {a : Vl} (hs : Sig k op x 1) (ha : okV x a) : okV k (unV op a) := by
  unfold Sig at hs
  rcases hs with ⟨_, _, h⟩ | ⟨_, _, _, h⟩ | ⟨rfl, rfl, rfl, _⟩ | ⟨rfl, rfl, rfl, _⟩ | ⟨_, _, _, h⟩ | ⟨_, _, _, h⟩ | ⟨rfl | rfl, rfl, rfl, _⟩ | ⟨rfl, rfl, _, _⟩ | ⟨_, _, _, h, _⟩ | ⟨_, _, _, h⟩
  · omega
  · omega
  · exact okV_ar 7 _ _ 1 rfl
  · exact okV_len ha
  · omega
  · omega
  · exact okV_tv _
  · exact okV_b2i _
  · exact okV_b2i _
  · omega
  · omega
/-- A row of values of these types. -/
def RowTy (ty : List Int) (row : List Vl) : Prop := row.length = ty.length ∧ ∀ i, i < ty.length → okV (ty.getD i 0) (row.getD i Vl.z)
theorem okV_const {k : Int} {v : Vl} (row : List Vl) (h : okV k v) : okV k (opV (cOp v.k) (cNum v.k v.n) (cTxt v.k v.s) 0 row []) := by
  obtain ⟨vk, vn, vs⟩ := v
  obtain ⟨h1, h2⟩ := h
  simp only at h1 h2 ⊢
  by_cases k0 : vk = 0
  · subst k0; exact okV_z k
  · by_cases k1 : vk = 1
    · subst k1
      have hn := vB_num h2
      refine ⟨h1, ?_⟩
      show vB 1 vn ⟨#[]⟩ = true
      simp [vB]; exact hn
    · by_cases k2 : vk = 2
      · subst k2
        refine ⟨h1, ?_⟩
        show vB 2 vn ⟨#[]⟩ = true
        simp [vB] at h2 ⊢
        exact h2.1
      · by_cases k3 : vk = 3
        · subst k3
          obtain ⟨hn, _⟩ := vB_text h2
          subst hn
          exact ⟨h1, h2⟩
        · simp [vB, k0, k1, k2, k3] at h2
theorem sig_range {k op x : Int} {n : Nat} (h : Sig k op x n) : 6 ≤ op ∧ op ≤ 28 ∧ op ≠ 26 := by
  unfold Sig at h; omega
theorem sig_takes {k op x : Int} {n : Nat} (h : Sig k op x n) : takesO op n = true := by
  unfold Sig at h
  rcases h with ⟨rfl, _, rfl⟩ | ⟨⟨h1, h2⟩, _, _, rfl⟩ | ⟨rfl, _, _, rfl⟩ | ⟨rfl, _, _, rfl⟩ | ⟨rfl, _, _, rfl⟩ | ⟨rfl | rfl, _, _, rfl⟩ | ⟨rfl | rfl, _, _, rfl⟩ | ⟨rfl, _, _, rfl⟩ | ⟨rfl, _, _, h, _⟩ | ⟨⟨h1, h2⟩, _, _, rfl⟩
  · rfl
  · have : op = 6 ∨ op = 7 ∨ op = 8 ∨ op = 9 ∨ op = 10 := by omega
    rcases this with rfl | rfl | rfl | rfl | rfl <;> rfl
  · rfl
  · rfl
  · rfl
  · rfl
  · rfl
  · rfl
  · rfl
  · rfl
  · simp [takesO, oneB, h]
  · have : op = 14 ∨ op = 15 ∨ op = 16 ∨ op = 17 ∨ op = 18 ∨ op = 19 ∨ op = 20 := by omega
    rcases this with rfl | rfl | rfl | rfl | rfl | rfl | rfl <;> rfl
theorem sig_one {k op x : Int} {n : Nat} (h : Sig k op x n) (h28 : op ≠ 28) : n = if oneB op = true then 1 else 2 := by
  have ht := sig_takes h
  have hr := sig_range h
  unfold takesO at ht
  rw [if_neg (by omega)] at ht
  split at ht
  · rename_i h1; rw [if_pos h1]; simpa using ht
  · rename_i h1
    rw [if_neg h1]
    rw [if_neg hr.2.2] at ht
    try rw [if_neg h28] at ht
    simpa using ht
theorem Made.value {ty : List Int} {row : List Vl} (hr : RowTy ty row) {d : Nat} {k : Int} {e : Ex} (h : Made ty d k e) : okV k (evalE e row) := by
  induction h with
  | col k c hc h =>
    subst h
    rw [evalE_eq]
    simp only [Ex.op, Ex.kids, Ex.col, Ex.num, Ex.text, List.map_nil, opV]
    rw [if_neg (by decide), if_neg (by decide)]
    have h1 : takesO 5 ([] : List Vl).length = true := rfl
    rw [if_neg (by rw [h1]; decide), if_pos trivial]
    unfold colV
    have hl := hr.1
    rw [if_neg (by omega), if_neg (by omega)]
    exact hr.2 c hc
  | const k v h =>
    rw [evalE_eq]
    simp only [Ex.op, Ex.kids, Ex.col, Ex.num, Ex.text, List.map_nil]
    exact okV_const row h
  | case k c a b hc ha hb ihc iha ihb =>
    rw [evalE_eq]
    simp only [Ex.node, Ex.op, Ex.kids, Ex.col, Ex.num, Ex.text, List.map_cons, List.map_nil, opV]
    rw [if_neg (by decide), if_neg (by decide)]
    have h1 : takesO 26 [evalE c row, evalE a row, evalE b row].length = true := rfl
    rw [if_neg (by rw [h1]; decide), if_neg (by decide), if_neg (by decide), if_pos trivial]
    split
    · exact iha
    · exact ihb
  | node k op x l h hl ih =>
    have hr6 := sig_range h
    have ht := sig_takes h
    rw [evalE_eq]
    show okV k (opV op 0 ⟨#[]⟩ 0 row (l.map (evalE · row)))
    unfold opV
    rw [if_neg (by omega), if_neg (by omega), if_neg (by rw [List.length_map, ht]; decide), if_neg (by omega), if_neg (by omega), if_neg hr6.2.2]
    by_cases h28 : op = 28
    · rw [if_pos h28]
      subst h28
      have hk : k = 2 := by unfold Sig at h; omega
      subst hk
      exact okV_in _ _ _ (okV_tv 0)
    · rw [if_neg h28]
      have h1 := sig_one h h28
      split at h1
      · rename_i ho
        rw [if_pos ho]
        match l, h1 with
        | [a], _ => exact okV_un h (ih a (by simp))
      · rename_i ho
        rw [if_neg ho]
        match l, h1 with
        | [a, b], _ => exact okV_bi h h28 (ih a (by simp)) (ih b (by simp))
end Go.Proofs.YtkmpaonakhfcjaaDoor
